/- What the smaller functions of package value do: own, digit; and cmp.Compare at numbers, texts and bytes, cmp.Or. -/
import Derived.Test.YtlehhjkdjachdaaProg
import Derived.Test.YtlehhjkdjachdaaWords
import Derived.Test.YtlehhjkdjachdaaVaMath
import Derived.Test.YtlehhjkdjachdaaBox
import Derived.WalkKit
import Derived.WalkSpells
import Derived.WalkLawsBesides
import Derived.Lib.Hide
namespace Go.Proofs.Ytlehhjkdjachdaa
open Go.RowKit
namespace Vc
open Va
/-- A value as the program holds it. -/
def ownI (k i : Int) : Int := if k = 1 then i else 0
def ownS (k : Int) (s : ByteArray) : ByteArray := if k = 2 then s else ⟨#[]⟩
def ownB (k : Int) (b : Bool) : Bool := if k = 3 then b else false

theorem res_cell1 {fn : Func} {p : Tmp} {ty : TypeId} (h : fn.results = #[.cell p ty]) (tmps : Array Value) (P : Program) (w : World) :
    (results fn tmps).run P w = ((asAddr (tmps.getD p undef)).run P w).andThen fun a w₁ => (loadVar ty a).run P w₁ := by
  simp only [results, h]
  simp [Sem.run_bind, Result.andThen]
theorem res_cell3 {fn : Func} {p u v : Tmp} {ty : TypeId} (h : fn.results = #[.cell p ty, .tmp u, .tmp v]) (tmps : Array Value) (P : Program) (w : World) :
    (results fn tmps).run P w = ((asAddr (tmps.getD p undef)).run P w).andThen fun a w₁ => ((loadVar ty a).run P w₁).andThen fun x w₂ => .ok (.tuple #[x, tmps.getD u undef, tmps.getD v undef]) w₂ := by
  simp only [results, h]
  simp [Sem.run_bind, Result.andThen]

theorem own_any (k i : Int) (s : ByteArray) (b : Bool) (w : World) :
    Calls Try.prog 26 #[.agg #[.int .i64 k, .int .i64 i, .string s, .bool b]] w fun e w' => e = .returned (.agg #[.int .i64 k, .int .i64 (ownI k i), .string (ownS k s), .bool (ownB k b)]) ∧ Below w.heap.size w w' := by
  unfold ownI ownS ownB
  by_cases h1 : k = 1
  · subst h1
    go_enter Try.func26, Try.ntmps26
    go_wp2_with fail
    (try simp only [Exit.inBlock, Exit.then])
    refine bodyPost_ret (v := .agg #[.int .i64 1, .int .i64 i, .string ⟨#[]⟩, .bool false]) ?_ rfl ⟨rfl, ?_⟩
    · rw [res_cell1 rfl]; go_simp
    · repeat' (first | exact Below.refl _ _ | refine Below.setCell ?_ (by simp) _ | refine Below.alloc ?_ (by simp <;> omega) _)
  by_cases h2 : k = 2
  · subst h2
    go_enter Try.func26, Try.ntmps26
    go_wp2_with fail
    (try simp only [Exit.inBlock, Exit.then])
    refine bodyPost_ret (v := .agg #[.int .i64 2, .int .i64 0, .string s, .bool false]) ?_ rfl ⟨rfl, ?_⟩
    · rw [res_cell1 rfl]; go_simp
    · repeat' (first | exact Below.refl _ _ | refine Below.setCell ?_ (by simp) _ | refine Below.alloc ?_ (by simp <;> omega) _)
  by_cases h3 : k = 3
  · subst h3
    go_enter Try.func26, Try.ntmps26
    go_wp2_with fail
    (try simp only [Exit.inBlock, Exit.then])
    refine bodyPost_ret (v := .agg #[.int .i64 3, .int .i64 0, .string ⟨#[]⟩, .bool b]) ?_ rfl ⟨rfl, ?_⟩
    · rw [res_cell1 rfl]; go_simp
    · repeat' (first | exact Below.refl _ _ | refine Below.setCell ?_ (by simp) _ | refine Below.alloc ?_ (by simp <;> omega) _)
  rw [if_neg h1, if_neg h2, if_neg h3]
  have q1 : (k == 1) = false := by simpa using h1
  have q2 : (k == 2) = false := by simpa using h2
  have q3 : (k == 3) = false := by simpa using h3
  go_enter Try.func26, Try.ntmps26
  go_wp2_with fail
  (try simp only [Exit.inBlock, Exit.then])
  refine bodyPost_ret (v := .agg #[.int .i64 k, .int .i64 0, .string ⟨#[]⟩, .bool false]) ?_ rfl ⟨rfl, ?_⟩
  · rw [res_cell1 rfl]; go_simp
  · repeat' (first | exact Below.refl _ _ | refine Below.setCell ?_ (by simp) _ | refine Below.alloc ?_ (by simp <;> omega) _)
/-- The byte of a truth. -/
def dg (b : Bool) : Int := if b then 1 else 0
theorem digit_any (b : Bool) (w : World) :
    Calls Try.prog 23 #[.bool b] w fun e w' => e = .returned (.int .u8 (dg b)) ∧ w' = w := by
  cases b
  · go_enter Try.func23, Try.ntmps23
    go_wp2_with fail
    go_ret
    exact ⟨rfl, rfl⟩
  · go_enter Try.func23, Try.ntmps23
    go_wp2_with fail
    go_ret
    exact ⟨rfl, rfl⟩
theorem nanI_any (x : Int) (w : World) :
    Calls Try.prog 40 #[.int .i64 x] w fun e w' => e = .returned (.bool false) ∧ w' = w := by
  go_enter Try.func40, Try.ntmps40
  go_wp2_with fail
  go_ret
  exact ⟨by simp, rfl⟩
theorem nanB_any (x : Int) (w : World) :
    Calls Try.prog 42 #[.int .u8 x] w fun e w' => e = .returned (.bool false) ∧ w' = w := by
  go_enter Try.func42, Try.ntmps42
  go_wp2_with fail
  go_ret
  exact ⟨by simp, rfl⟩
theorem nanS_any (x : ByteArray) (w : World) :
    Calls Try.prog 41 #[.string x] w fun e w' => e = .returned (.bool false) ∧ w' = w := by
  go_enter Try.func41, Try.ntmps41
  go_wp2_with fail
  go_ret
  exact ⟨by simp, rfl⟩
theorem cmpI_any (x y : Int) (w : World) :
    Calls Try.prog 28 #[.int .i64 x, .int .i64 y] w fun e w' => e = .returned (.int .i64 (cmpI x y)) ∧ w' = w := by
  have n1 := nanI_any x w
  have n2 := nanI_any y w
  by_cases h1 : x < y
  · have e : cmpI x y = -1 := by unfold cmpI; simp [h1, way]
    rw [e]
    go_enter Try.func28, Try.ntmps28
    go_wp2_with fail
    refine n1.mono ?_
    rintro _ _ ⟨rfl, rfl⟩
    go_wp2_with fail
    refine n2.mono ?_
    rintro _ _ ⟨rfl, rfl⟩
    go_wp2_with fail
    go_ret
    exact ⟨rfl, rfl⟩
  by_cases h2 : y < x
  · have e : cmpI x y = 1 := by unfold cmpI; simp [h1, h2, way]
    rw [e]
    go_enter Try.func28, Try.ntmps28
    go_wp2_with fail
    refine n1.mono ?_
    rintro _ _ ⟨rfl, rfl⟩
    go_wp2_with fail
    refine n2.mono ?_
    rintro _ _ ⟨rfl, rfl⟩
    go_wp2_with fail
    go_ret
    exact ⟨rfl, rfl⟩
  · have e : cmpI x y = 0 := by unfold cmpI; simp [h1, h2, way]
    rw [e]
    go_enter Try.func28, Try.ntmps28
    go_wp2_with fail
    refine n1.mono ?_
    rintro _ _ ⟨rfl, rfl⟩
    go_wp2_with fail
    refine n2.mono ?_
    rintro _ _ ⟨rfl, rfl⟩
    go_wp2_with fail
    go_ret
    exact ⟨rfl, rfl⟩
theorem cmpD_any (x y : Int) (w : World) :
    Calls Try.prog 30 #[.int .u8 x, .int .u8 y] w fun e w' => e = .returned (.int .i64 (cmpI x y)) ∧ w' = w := by
  have n1 := nanB_any x w
  have n2 := nanB_any y w
  by_cases h1 : x < y
  · have e : cmpI x y = -1 := by unfold cmpI; simp [h1, way]
    rw [e]
    go_enter Try.func30, Try.ntmps30
    go_wp2_with fail
    refine n1.mono ?_
    rintro _ _ ⟨rfl, rfl⟩
    go_wp2_with fail
    refine n2.mono ?_
    rintro _ _ ⟨rfl, rfl⟩
    go_wp2_with fail
    go_ret
    exact ⟨rfl, rfl⟩
  by_cases h2 : y < x
  · have e : cmpI x y = 1 := by unfold cmpI; simp [h1, h2, way]
    rw [e]
    go_enter Try.func30, Try.ntmps30
    go_wp2_with fail
    refine n1.mono ?_
    rintro _ _ ⟨rfl, rfl⟩
    go_wp2_with fail
    refine n2.mono ?_
    rintro _ _ ⟨rfl, rfl⟩
    go_wp2_with fail
    go_ret
    exact ⟨rfl, rfl⟩
  · have e : cmpI x y = 0 := by unfold cmpI; simp [h1, h2, way]
    rw [e]
    go_enter Try.func30, Try.ntmps30
    go_wp2_with fail
    refine n1.mono ?_
    rintro _ _ ⟨rfl, rfl⟩
    go_wp2_with fail
    refine n2.mono ?_
    rintro _ _ ⟨rfl, rfl⟩
    go_wp2_with fail
    go_ret
    exact ⟨rfl, rfl⟩
theorem cmpS_any (x y : ByteArray) (w : World) :
    Calls Try.prog 29 #[.string x, .string y] w fun e w' => e = .returned (.int .i64 (cmpS x y)) ∧ w' = w := by
  have n1 := nanS_any x w
  have n2 := nanS_any y w
  cases h1 : bef x y
  case true =>
    have e : cmpS x y = -1 := by unfold cmpS; simp [h1, way]
    have g1 : Op.bytesLess x.toList y.toList = true := h1
    rw [e]
    go_enter Try.func29, Try.ntmps29
    go_wp2_with fail
    refine n1.mono ?_
    rintro _ _ ⟨rfl, rfl⟩
    go_wp2_with fail
    refine n2.mono ?_
    rintro _ _ ⟨rfl, rfl⟩
    go_wp2_with fail
    go_ret
    exact ⟨rfl, rfl⟩
  cases h2 : bef y x
  case true =>
    have e : cmpS x y = 1 := by unfold cmpS; simp [h1, h2, way]
    have g1 : Op.bytesLess x.toList y.toList = false := h1
    have g2 : Op.bytesLess y.toList x.toList = true := h2
    have ne : ¬ x = y := fun q => by rw [q, bef_irrefl] at h2; cases h2
    have g3 : (x.toList == y.toList) = false := by
      rw [ByteArray.toList_eq, ByteArray.toList_eq]
      simpa using fun q => ne (WideShapes.bytes_inj q)
    clear h1 h2 ne
    rw [e]
    go_enter Try.func29, Try.ntmps29
    go_wp2_with fail
    refine n1.mono ?_
    rintro _ _ ⟨rfl, rfl⟩
    go_wp2_with fail
    refine n2.mono ?_
    rintro _ _ ⟨rfl, rfl⟩
    go_wp2_with fail
    go_ret
    exact ⟨rfl, rfl⟩
  case false =>
    have e : cmpS x y = 0 := by unfold cmpS; simp [h1, h2, way]
    have g0 : x = y := by
      by_cases q : x = y
      · exact q
      · rcases bef_total q with p | p
        · rw [p] at h1; cases h1
        · rw [p] at h2; cases h2
    subst g0
    have g1 : Op.bytesLess x.toList x.toList = false := h1
    have g3 : (x.toList == x.toList) = true := by simp
    clear h1 h2
    rw [e]
    go_enter Try.func29, Try.ntmps29
    go_wp2_with fail
    refine n1.mono ?_
    rintro _ _ ⟨rfl, rfl⟩
    go_wp2_with fail
    refine n2.mono ?_
    rintro _ _ ⟨rfl, rfl⟩
    go_wp2_with fail
    go_ret
    exact ⟨rfl, rfl⟩
/-- The first of some numbers that is not zero. -/
def fstN : List Int → Int
  | [] => 0
  | x :: r => if x = 0 then fstN r else x
theorem fstN_drop (l : List Int) (k : Nat) (h : k < l.length) : fstN (l.drop k) = if l.getD k 0 = 0 then fstN (l.drop (k + 1)) else l.getD k 0 := by
  rw [List.drop_eq_getElem_cons h, fstN]
  simp [List.getD, List.getElem?_eq_getElem h]
theorem or_any (A : Option Addr) (n c : Nat) (l : List Int) (w : World) (hS : Wd.Sl w .i64 A n c l) (hm : n ≤ 1000000) :
    Calls Try.prog 27 #[.slice A n c] w fun e w' => e = .returned (.int .i64 (fstN l)) ∧ w' = w := by
  have Hl := Lib.hid hS.len
  have hcap := hS.cap
  obtain ⟨z, hz⟩ : ∃ z, z = fstN l := ⟨_, rfl⟩
  rw [← hz]
  have Hz := Lib.hid hz
  clear hz
  go_enter Try.func27, Try.ntmps27
  go_wp2
  go_loopw [5, 8] (fun _ i wr => ∃ k : Nat, i = .int .i64 k ∧ k ≤ n ∧ Hid (fstN (l.drop k) = z) ∧ wr = w) (fun _ i _ => n - (intOf i).toNat)
  case atStart => exact ⟨0, rfl, Nat.zero_le _, Lib.hid (by rw [Hz.out]; rfl), rfl⟩
  case round =>
    obtain ⟨k, rfl, hk, hf, rfl⟩ := hrel
    by_cases hlt : k < n
    · obtain ⟨b, o, rfl, hbB, hcell⟩ := hS.rd k (by rw [← Hl.out]; exact hlt)
      have hst := fstN_drop l k (by rw [← Hl.out]; exact hlt)
      rw [hf.out] at hst
      obtain ⟨x, hx⟩ : ∃ x, x = l.getD k 0 := ⟨_, rfl⟩
      rw [← hx] at hcell hst
      have Hx := Lib.hid hst
      clear hst hx hf
      by_cases h0 : x = 0
      · go_wp2_with fail
        go_roundw
        case rel => exact ⟨k + 1, by go_num, by omega, Lib.hid (by rw [Hx.out, if_pos h0]), by first | rfl | trivial⟩
        case measure => simp [intOf]; omega
      · go_wp2_with fail
        go_ret
        exact ⟨by rw [Hx.out, if_neg h0]; rfl, rfl⟩
    · have hkI : ¬ (k : Int) < n := by omega
      have e : z = 0 := by
        rw [← hf.out, List.drop_of_length_le (by rw [← Hl.out]; omega)]
        rfl
      have He := Lib.hid e
      clear e
      go_wp2_with fail
      go_ret
      exact ⟨by rw [He.out]; rfl, rfl⟩
/-- A value's block. -/
def Vb (w : World) (g : Nat) (k i : Int) (s : ByteArray) (b : Bool) : Prop := Wd.Bx w g 23 #[.int .i64 k, .int .i64 i, .string s, .bool b]
theorem four {w : World} {g : Nat} {k i : Int} {s : ByteArray} {b : Bool} (h : Vb w g k i s b) :
    (w.cell? ⟨g, 0, none⟩ = some (.int .i64 k) ∧ w.cell? ⟨g, 1, none⟩ = some (.int .i64 i) ∧ w.cell? ⟨g, 2, none⟩ = some (.string s) ∧ w.cell? ⟨g, 3, none⟩ = some (.bool b))
    ∧ (w.frozen? ⟨g, 0, none⟩ = false ∧ w.frozen? ⟨g, 1, none⟩ = false ∧ w.frozen? ⟨g, 2, none⟩ = false ∧ w.frozen? ⟨g, 3, none⟩ = false) :=
  ⟨⟨(Wd.Bx.cell h 0).trans rfl, (Wd.Bx.cell h 1).trans rfl, (Wd.Bx.cell h 2).trans rfl, (Wd.Bx.cell h 3).trans rfl⟩, Wd.Bx.free h 0, Wd.Bx.free h 1, Wd.Bx.free h 2, Wd.Bx.free h 3⟩
/-- A value's block is written whole. -/
def setV (w : World) (g : Nat) (k i : Int) (s : ByteArray) (b : Bool) : World := (((w.setCell ⟨g, 0, none⟩ (.int .i64 k)).setCell ⟨g, 1, none⟩ (.int .i64 i)).setCell ⟨g, 2, none⟩ (.string s)).setCell ⟨g, 3, none⟩ (.bool b)
theorem Vb.set {w : World} {g : Nat} {k i k' i' : Int} {s s' : ByteArray} {b b' : Bool} (h : Vb w g k i s b) : Vb (setV w g k' i' s' b') g k' i' s' b' := by
  have h1 := heap_setCell_same w g 0 _ _ (.int .i64 k') h
  have h2 := heap_setCell_same _ g 1 _ _ (.int .i64 i') h1
  have h3 := heap_setCell_same _ g 2 _ _ (.string s') h2
  have h4 := heap_setCell_same _ g 3 _ _ (.bool b') h3
  exact h4
theorem Vb.other {w : World} {g g' : Nat} {k i k' i' : Int} {s s' : ByteArray} {b b' : Bool} (h : Vb w g k i s b) (hg : g ≠ g') : Vb (setV w g' k' i' s' b') g k i s b := by
  unfold Vb Wd.Bx setV
  rw [heap_setCell_other _ _ _ _ hg, heap_setCell_other _ _ _ _ hg, heap_setCell_other _ _ _ _ hg, heap_setCell_other _ _ _ _ hg]
  exact h
theorem below_setV {B : Nat} {w w' : World} {g : Nat} {k i : Int} {s : ByteArray} {b : Bool} (h : Below B w w') (hg : B ≤ g) : Below B w (setV w' g k i s b) :=
  (((h.setCell hg _).setCell hg _).setCell hg _).setCell hg _

end Vc
end Go.Proofs.Ytlehhjkdjachdaa
