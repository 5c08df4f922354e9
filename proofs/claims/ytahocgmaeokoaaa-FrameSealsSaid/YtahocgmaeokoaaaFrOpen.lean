/- What open of package frame does: the frame that bytes begin with; and bytes.Equal. -/
import Derived.Test.YtahocgmaeokoaaaFrSum
import Derived.Test.YtahocgmaeokoaaaFrFrame
import Derived.Test.YtahocgmaeokoaaaNumGetV
import Derived.Laws.BytesArg
import Derived.Deep.RegionWith
import Derived.Deep.DeepCutAuto
namespace Go.Proofs.Ytahocgmaeokoaaa
open Go.RowKit
namespace Fc
open Nc

theorem str_inj : ∀ {xs ys : List Int}, Nm.Byt xs → Nm.Byt ys → xs.map (fun n => UInt8.ofNat n.toNat) = ys.map (fun n => UInt8.ofNat n.toNat) → xs = ys
  | [], [], _, _, _ => rfl
  | [], _ :: _, _, _, h => by simp at h
  | _ :: _, [], _, _, h => by simp at h
  | x :: xs, y :: ys, h1, h2, h => by
    simp only [List.map_cons, List.cons.injEq] at h
    have a1 := h1 x (by simp)
    have a2 := h2 y (by simp)
    have e : x = y := by
      have := congrArg UInt8.toNat h.1
      simp only [UInt8.toNat_ofNat'] at this
      omega
    rw [e, str_inj (fun z hz => h1 z (by simp [hz])) (fun z hz => h2 z (by simp [hz])) h.2]
theorem strOf_eq {xs ys : List Int} (h1 : Nm.Byt xs) (h2 : Nm.Byt ys) : ((strOfNums xs).toList == (strOfNums ys).toList) = decide (xs = ys) := by
  rw [ByteArray.toList_eq, ByteArray.toList_eq, strOfNums_data, strOfNums_data]
  by_cases h : xs = ys
  · subst h; simp
  · rw [decide_eq_false h, beq_eq_false_iff_ne]
    exact fun e => h (str_inj h1 h2 e)

theorem equal_any (A B : Option Addr) (n m c d : Nat) (xs ys : List Int) (w : World) (hA : Wd.Sl w .u8 A n c xs) (hB : Wd.Sl w .u8 B m d ys) (h0 : 0 < n) (h1 : 0 < m) (b1 : Nm.Byt xs) (b2 : Nm.Byt ys) :
    Calls Try.prog 36 #[.slice A n c, .slice B m d] w fun e w' => e = .returned (.bool (decide (xs = ys))) ∧ w = w' := by
  have hl := hA.len
  have hl2 := hB.len
  obtain ⟨b1', o1, rfl, _, h1⟩ := hA.rd.some_ (by omega)
  obtain ⟨b2', o2, rfl, _, h2⟩ := hB.rd.some_ (by omega)
  have k1 := run_convert_bytes_arg (P := Try.prog) w 22 5 Try.underlying22 Try.underlying5 b1' o1 n c xs hl.symm (by rw [hl]; exact h1) 9 Try.underlying9
  have k2 := run_convert_bytes_arg (P := Try.prog) w 22 5 Try.underlying22 Try.underlying5 b2' o2 m d ys hl2.symm (by rw [hl2]; exact h2) 9 Try.underlying9
  have he := strOf_eq b1 b2
  have He := Lib.hid he
  clear he
  generalize strOfNums xs = s at *
  generalize strOfNums ys = t at *
  clear h1 h2 hA hB hl hl2
  rw [← He.out]
  go_enter Try.func36, Try.ntmps36
  go_wp2_with fail
  go_ret
  exact ⟨rfl, rfl⟩

/-- What open tells: the payload's piece of the bytes, and how long the frame is; or that there is none. -/
def OpenOut (A : Option Addr) (n c : Nat) (b : List Int) (w : World) (r : Option (List Int × Nat)) (e : Ending) (w' : World) : Prop :=
  Below w.heap.size w w' ∧ match r with
    | none => e = .returned (.tuple #[.slice none 0 0, .int .i64 0, .bool false])
    | some (p, s) => ∃ A' n' c', e = .returned (.tuple #[.slice A' n' c', .int .i64 (s : Int), .bool true]) ∧ ∀ w0 : World, Wd.Sl w0 .u8 A n c b → Wd.Sl w0 .u8 A' n' c' p

theorem OpenOut.no {A : Option Addr} {n c : Nat} {b : List Int} {w w' : World} (h : Below w.heap.size w w') : OpenOut A n c b w none (.returned (.tuple #[.slice none 0 0, .int .i64 0, .bool false])) w' := ⟨h, rfl⟩

set_option maxHeartbeats 1000000 in
theorem open_any (g : Nat) (A : Option Addr) (n c : Nat) (b : List Int) (w : World) (hT : Tb w g) (hS : Wd.Sl w .u8 A n c b) (hB : Nm.Byt b) (hm : n ≤ 100000000) :
    Calls Try.prog 32 #[.pointer (some ⟨g, 0, none⟩), .slice A n c] w (OpenOut A n c b w (Fr.openF b)) := by
  have C1 := getLen_any A n c b w hS hB
  have Hl := Lib.hid hS.len
  have hc := hS.cap
  have hx := hS.max
  unfold maxLen at hx
  unfold Fr.openF
  by_cases h0 : (Nm.getL b).2.2 ≠ 0 ∨ 65536 < (Nm.getL b).1
  · rw [if_pos h0]
    generalize Nm.getL b = q at *
    obtain ⟨v, k, er⟩ := q
    have C := Lib.hid C1
    clear C1
    by_cases h1 : er = 0
    · subst h1
      have h2 : 65536 < v := by simpa using h0
      clear h0
      go_enter Try.func32, Try.ntmps32
      go_wp2_with fail
      refine C.out.mono ?_
      rintro e w1 ⟨rfl, rfl⟩
      unfold three
      go_wp2_with fail
      go_ret3
      exact OpenOut.no (Below.refl _ _)
    · have hne : (er != 0) = true := by rw [bne_iff_ne]; exact h1
      clear h0
      go_enter Try.func32, Try.ntmps32
      go_wp2_with fail
      refine C.out.mono ?_
      rintro e w1 ⟨rfl, rfl⟩
      unfold three
      go_wp2_with fail
      go_ret3
      exact OpenOut.no (Below.refl _ _)
  · rw [if_neg h0]
    have hz : (Nm.gv b).2.2 = 0 := by
      refine Classical.byContradiction fun q => h0 (.inl ?_)
      unfold Nm.getL
      rw [if_neg q]
      exact q
    obtain ⟨k, u, hgv, k1, k2, k3, u0, u1, _⟩ := Nm.gv_only b hB hz
    have hu : ¬ 9223372036854775807 < u := by
      intro q
      refine h0 (.inl ?_)
      unfold Nm.getL
      rw [hgv]
      simp only [if_pos q]
      decide
    have hg : Nm.getL b = (u, (k : Int), 0) := by
      unfold Nm.getL
      rw [hgv]
      exact if_neg hu
    rw [hg] at C1 h0 ⊢
    have hu2 : u ≤ 65536 := by simp at h0; exact h0
    obtain ⟨N, rfl⟩ := Int.eq_ofNat_of_zero_le u0
    simp only [Int.toNat_natCast] at *
    have hN : N ≤ 65536 := by omega
    clear h0 hz hg hgv hu u0 u1 hu2
    have C := Lib.hid C1
    clear C1
    by_cases h1 : b.length < k + N + 4
    · rw [if_pos h1]
      have hi : (n : Int) < (k : Int) + (N : Int) + 4 := by have := Hl.out; omega
      go_enter Try.func32, Try.ntmps32
      go_wp2_with fail
      refine C.out.mono ?_
      rintro e w1 ⟨rfl, rfl⟩
      unfold three
      go_wp2_with fail
      go_ret3
      exact OpenOut.no (Below.refl _ _)
    · rw [if_neg h1]
      have hi : (k : Int) + (N : Int) + 4 ≤ (n : Int) := by have := Hl.out; omega
      have hSp := hS.mid' k (k + N) (by omega) (by omega) (by omega)
      have hSt := hS.mid' (k + N) (k + N + 4) (by omega) (by omega) (by omega)
      rw [show k + N - k = N by omega] at hSp
      rw [show k + N + 4 - (k + N) = 4 by omega] at hSt
      have hBp : Nm.Byt ((b.drop k).take N) := fun x hx => hB x (List.mem_of_mem_drop (List.mem_of_mem_take hx))
      have hBt : Nm.Byt ((b.drop (k + N)).take 4) := fun x hx => hB x (List.mem_of_mem_drop (List.mem_of_mem_take hx))
      have hall : ∀ w0 : World, Wd.Sl w0 .u8 A n c b → Wd.Sl w0 .u8 (A.map (·.add k)) N (c - k) ((b.drop k).take N) := fun w0 h => by
        have := h.mid' k (k + N) (by omega) (by omega) (by omega)
        rwa [show k + N - k = N by omega] at this
      generalize (b.drop k).take N = p at *
      generalize (b.drop (k + N)).take 4 = t at *
      obtain ⟨β, hβ⟩ : ∃ β, β = decide (Fr.le4 (Fr.sum p) = t) := ⟨_, rfl⟩
      have Ct := Lib.hid fun (w' : World) (hb : Below w.heap.size w w') => tail_any g _ N (c - k) p w' (hT.below hT.lt hb) (hSp.below hb) hBp
      have Ce := Lib.hid fun (w' : World) (hb : Below w.heap.size w w') A5 n5 c5 (h5 : Wd.Sl w' .u8 A5 n5 c5 (Fr.le4 (Fr.sum p))) => (by
        have := equal_any A5 _ n5 4 c5 (c - (k + N)) _ _ w' h5 (hSt.below hb) (by rw [h5.len, Fr.le4_len]; decide) (by decide) (Fr.le4_byt _) hBt
        rw [← hβ] at this
        exact this : Calls Try.prog 36 _ w' fun e w'' => e = .returned (.bool β) ∧ w' = w'')
      clear hSt hBp hBt hT hB
      have HSp := Lib.hid hall
      have Hb := Lib.hid hβ
      obtain ⟨R, hR⟩ : ∃ R, R = (if Fr.le4 (Fr.sum p) = t then some (p, k + N + 4) else none) := ⟨_, rfl⟩
      rw [← hR]
      have HR := Lib.hid hR
      clear hSp hall hβ hS h1 hR
      go_enter Try.func32, Try.ntmps32
      go_wp2_with fail
      refine C.out.mono ?_
      rintro e w1 ⟨rfl, rfl⟩
      unfold three
      go_upto_region 9 with fail
      go_cut [12, 46] (fun u s wx => u = .slice (A.map (·.add k)) N (c - k) ∧ s = .bool (!β) ∧ Below w.heap.size w wx)
      case first =>
        go_region_with (first | (go_at_call 21; refine (Ct.out _ ((Below.refl _ _).drew)).mono ?_; rintro e w2 ⟨A5, n5, c5, rfl, hS5, hB5⟩; have hB5' : Below w.heap.size w w2 := Wd.of_drew hB5) | (go_at_call 36; refine (Ce.out _ hB5' A5 n5 c5 hS5).mono ?_; rintro e w3 ⟨rfl, rfl⟩))
        all_goals (go_wp2_with fail; go_meet; exact ⟨by simp, by simp, hB5'⟩)
      case rest =>
        obtain ⟨rfl, rfl, hb⟩ := hcut
        cases β with
        | false =>
          rw [if_neg (of_decide_eq_false Hb.out.symm)] at HR
          obtain rfl := HR.out
          go_wp2_with fail
          go_ret3
          exact OpenOut.no hb
        | true =>
          rw [if_pos (of_decide_eq_true Hb.out.symm)] at HR
          have e1 : ((k : Int) + (N : Int) + 4) = ((k + N + 4 : Nat) : Int) := by omega
          have E1 := Lib.hid e1
          clear e1
          go_wp2_with fail
          go_ret3
          rw [HR.out]
          refine ⟨hb, _, N, _, ?_, HSp.out⟩
          rw [← E1.out]
          rfl
end Fc
end Go.Proofs.Ytahocgmaeokoaaa
