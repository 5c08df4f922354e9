/- What cmp.Compare does at numbers, texts and bytes, and cmp.Or. -/
import Derived.Test.YtiokajaadmfohaaVaBase
import Derived.WalkLawsBesides
import Derived.WalkSpells
namespace Go.Proofs.Ytiokajaadmfohaa
open Go.RowKit
namespace Vc
open Va
theorem nanI_any (x : Int) (w : World) :
    Calls Try.prog 54 #[.int .i64 x] w fun e w' => e = .returned (.bool false) ∧ w' = w := by
  go_enter Try.func54, Try.ntmps54
  go_wp2_with fail
  go_ret
  exact ⟨by simp, rfl⟩
theorem nanB_any (x : Int) (w : World) :
    Calls Try.prog 56 #[.int .u8 x] w fun e w' => e = .returned (.bool false) ∧ w' = w := by
  go_enter Try.func56, Try.ntmps56
  go_wp2_with fail
  go_ret
  exact ⟨by simp, rfl⟩
theorem nanS_any (x : ByteArray) (w : World) :
    Calls Try.prog 55 #[.string x] w fun e w' => e = .returned (.bool false) ∧ w' = w := by
  go_enter Try.func55, Try.ntmps55
  go_wp2_with fail
  go_ret
  exact ⟨by simp, rfl⟩
theorem cmpI_any (x y : Int) (w : World) :
    Calls Try.prog 40 #[.int .i64 x, .int .i64 y] w fun e w' => e = .returned (.int .i64 (cmpI x y)) ∧ w' = w := by
  have n1 := nanI_any x w
  have n2 := nanI_any y w
  by_cases h1 : x < y
  · have e : cmpI x y = -1 := by unfold cmpI; simp [h1, way]
    rw [e]
    go_enter Try.func40, Try.ntmps40
    go_wp2_with fail
    refine n1.mono ?_
    rintro _ _ ⟨rfl, rfl⟩
    go_wp2_with fail
    refine n2.mono ?_
    rintro _ _ ⟨rfl, rfl⟩
    go_wp2_with fail
    go_ret
    exact ⟨rfl, rfl⟩
  by_cases h2 : y < x
  · have e : cmpI x y = 1 := by unfold cmpI; simp [h1, h2, way]
    rw [e]
    go_enter Try.func40, Try.ntmps40
    go_wp2_with fail
    refine n1.mono ?_
    rintro _ _ ⟨rfl, rfl⟩
    go_wp2_with fail
    refine n2.mono ?_
    rintro _ _ ⟨rfl, rfl⟩
    go_wp2_with fail
    go_ret
    exact ⟨rfl, rfl⟩
  · have e : cmpI x y = 0 := by unfold cmpI; simp [h1, h2, way]
    rw [e]
    go_enter Try.func40, Try.ntmps40
    go_wp2_with fail
    refine n1.mono ?_
    rintro _ _ ⟨rfl, rfl⟩
    go_wp2_with fail
    refine n2.mono ?_
    rintro _ _ ⟨rfl, rfl⟩
    go_wp2_with fail
    go_ret
    exact ⟨rfl, rfl⟩
theorem cmpD_any (x y : Int) (w : World) :
    Calls Try.prog 42 #[.int .u8 x, .int .u8 y] w fun e w' => e = .returned (.int .i64 (cmpI x y)) ∧ w' = w := by
  have n1 := nanB_any x w
  have n2 := nanB_any y w
  by_cases h1 : x < y
  · have e : cmpI x y = -1 := by unfold cmpI; simp [h1, way]
    rw [e]
    go_enter Try.func42, Try.ntmps42
    go_wp2_with fail
    refine n1.mono ?_
    rintro _ _ ⟨rfl, rfl⟩
    go_wp2_with fail
    refine n2.mono ?_
    rintro _ _ ⟨rfl, rfl⟩
    go_wp2_with fail
    go_ret
    exact ⟨rfl, rfl⟩
  by_cases h2 : y < x
  · have e : cmpI x y = 1 := by unfold cmpI; simp [h1, h2, way]
    rw [e]
    go_enter Try.func42, Try.ntmps42
    go_wp2_with fail
    refine n1.mono ?_
    rintro _ _ ⟨rfl, rfl⟩
    go_wp2_with fail
    refine n2.mono ?_
    rintro _ _ ⟨rfl, rfl⟩
    go_wp2_with fail
    go_ret
    exact ⟨rfl, rfl⟩
  · have e : cmpI x y = 0 := by unfold cmpI; simp [h1, h2, way]
    rw [e]
    go_enter Try.func42, Try.ntmps42
    go_wp2_with fail
    refine n1.mono ?_
    rintro _ _ ⟨rfl, rfl⟩
    go_wp2_with fail
    refine n2.mono ?_
    rintro _ _ ⟨rfl, rfl⟩
    go_wp2_with fail
    go_ret
    exact ⟨rfl, rfl⟩
theorem cmpS_any (x y : ByteArray) (w : World) :
    Calls Try.prog 41 #[.string x, .string y] w fun e w' => e = .returned (.int .i64 (cmpS x y)) ∧ w' = w := by
  have n1 := nanS_any x w
  have n2 := nanS_any y w
  cases h1 : bef x y
  case true =>
    have e : cmpS x y = -1 := by unfold cmpS; simp [h1, way]
    have g1 : Op.bytesLess x.toList y.toList = true := h1
    rw [e]
    go_enter Try.func41, Try.ntmps41
    go_wp2_with fail
    refine n1.mono ?_
    rintro _ _ ⟨rfl, rfl⟩
    go_wp2_with fail
    refine n2.mono ?_
    rintro _ _ ⟨rfl, rfl⟩
    go_wp2_with fail
    go_ret
    exact ⟨rfl, rfl⟩
  cases h2 : bef y x
  case true =>
    have e : cmpS x y = 1 := by unfold cmpS; simp [h1, h2, way]
    have g1 : Op.bytesLess x.toList y.toList = false := h1
    have g2 : Op.bytesLess y.toList x.toList = true := h2
    have ne : ¬ x = y := fun q => by rw [q, bef_irrefl] at h2; cases h2
    have g3 : (x.toList == y.toList) = false := by
      rw [ByteArray.toList_eq, ByteArray.toList_eq]
      simpa using fun q => ne (WideShapes.bytes_inj q)
    clear h1 h2 ne
    rw [e]
    go_enter Try.func41, Try.ntmps41
    go_wp2_with fail
    refine n1.mono ?_
    rintro _ _ ⟨rfl, rfl⟩
    go_wp2_with fail
    refine n2.mono ?_
    rintro _ _ ⟨rfl, rfl⟩
    go_wp2_with fail
    go_ret
    exact ⟨rfl, rfl⟩
  case false =>
    have e : cmpS x y = 0 := by unfold cmpS; simp [h1, h2, way]
    have g0 : x = y := by
      by_cases q : x = y
      · exact q
      · rcases bef_total q with p | p
        · rw [p] at h1; cases h1
        · rw [p] at h2; cases h2
    subst g0
    have g1 : Op.bytesLess x.toList x.toList = false := h1
    have g3 : (x.toList == x.toList) = true := by simp
    clear h1 h2
    rw [e]
    go_enter Try.func41, Try.ntmps41
    go_wp2_with fail
    refine n1.mono ?_
    rintro _ _ ⟨rfl, rfl⟩
    go_wp2_with fail
    refine n2.mono ?_
    rintro _ _ ⟨rfl, rfl⟩
    go_wp2_with fail
    go_ret
    exact ⟨rfl, rfl⟩
/-- The first of some numbers that is not zero. -/
def fstN : List Int → Int
  | [] => 0
  | x :: r => if x = 0 then fstN r else x
theorem fstN_drop (l : List Int) (k : Nat) (h : k < l.length) : fstN (l.drop k) = if l.getD k 0 = 0 then fstN (l.drop (k + 1)) else l.getD k 0 := by
  rw [List.drop_eq_getElem_cons h, fstN]
  simp [List.getD, List.getElem?_eq_getElem h]
theorem or_any (A : Option Addr) (n c : Nat) (l : List Int) (w : World) (hS : Wd.Sl w .i64 A n c l) (hm : n ≤ 1000000) :
    Calls Try.prog 39 #[.slice A n c] w fun e w' => e = .returned (.int .i64 (fstN l)) ∧ w' = w := by
  have Hl := Lib.hid hS.len
  have hcap := hS.cap
  obtain ⟨z, hz⟩ : ∃ z, z = fstN l := ⟨_, rfl⟩
  rw [← hz]
  have Hz := Lib.hid hz
  clear hz
  go_enter Try.func39, Try.ntmps39
  go_wp2
  go_loopw [5, 8] (fun _ i wr => ∃ k : Nat, i = .int .i64 k ∧ k ≤ n ∧ Hid (fstN (l.drop k) = z) ∧ wr = w) (fun _ i _ => n - (intOf i).toNat)
  case atStart => exact ⟨0, rfl, Nat.zero_le _, Lib.hid (by rw [Hz.out]; rfl), rfl⟩
  case round =>
    obtain ⟨k, rfl, hk, hf, rfl⟩ := hrel
    by_cases hlt : k < n
    · obtain ⟨b, o, rfl, hbB, hcell⟩ := hS.rd k (by rw [← Hl.out]; exact hlt)
      have hst := fstN_drop l k (by rw [← Hl.out]; exact hlt)
      rw [hf.out] at hst
      obtain ⟨x, hx⟩ : ∃ x, x = l.getD k 0 := ⟨_, rfl⟩
      rw [← hx] at hcell hst
      have Hx := Lib.hid hst
      clear hst hx hf
      by_cases h0 : x = 0
      · go_wp2_with fail
        go_roundw
        case rel => exact ⟨k + 1, by go_num, by omega, Lib.hid (by rw [Hx.out, if_pos h0]), by first | rfl | trivial⟩
        case measure => simp [intOf]; omega
      · go_wp2_with fail
        go_ret
        exact ⟨by rw [Hx.out, if_neg h0]; rfl, rfl⟩
    · have hkI : ¬ (k : Int) < n := by omega
      have e : z = 0 := by
        rw [← hf.out, List.drop_of_length_le (by rw [← Hl.out]; omega)]
        rfl
      have He := Lib.hid e
      clear e
      go_wp2_with fail
      go_ret
      exact ⟨by rw [He.out]; rfl, rfl⟩
end Vc
end Go.Proofs.Ytiokajaadmfohaa
