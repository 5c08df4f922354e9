/- What maySign, mayName, mayKind and the reference's name do. What the reference's name, whole, Few and Light do. -/
import Derived.Test.YtdmgjeipkpbojaaDoorScFind
import Derived.Test.YtdmgjeipkpbojaaDoorVaRefPut
import Derived.Test.YtdmgjeipkpbojaaDoorVaOpen
import Derived.WalkLawsBesides
namespace Go.Proofs.YtdmgjeipkpbojaaDoor
set_option maxRecDepth 20000
open Go.RowKit
namespace Sx
open Sc (Col Sch nameOk sgn tr tr_yes tr_no)
open Va (byts byts_len)
/-- A sign of a name, as the machine tells it. -/
def sgB (x : Int) : Bool := (decide (97 ≤ x) && decide (x ≤ 122)) || (decide (48 ≤ x) && decide (x ≤ 57)) || decide (x = 95)
theorem sgB_iff (x : Int) : sgB x = true ↔ sgn x := by
  unfold sgB sgn
  simp [or_assoc]
theorem maySign_any (x : Int) (w : World) :
    Calls Tryd.prog 57 #[.int .u8 x] w fun e w' => e = .returned (.bool (sgB x)) ∧ w' = w := by
  obtain ⟨r, hr⟩ : ∃ r, r = sgB x := ⟨_, rfl⟩
  rw [← hr]
  have Hr := Lib.hid hr
  clear hr
  go_enter Tryd.func57, Tryd.ntmps57
  go_wp2_with fail
  all_goals (go_ret; refine ⟨?_, rfl⟩; rw [Hr.out]; unfold sgB; refine congrArg Ending.returned (congrArg Value.bool (?_ : _ = _)); rw [Bool.eq_iff_iff]; simp; omega)
theorem mayKind_any (k : Int) (w : World) :
    Calls Tryd.prog 43 #[.int .i64 k] w fun e w' => e = .returned (.bool (decide (1 ≤ k ∧ k ≤ 3))) ∧ w' = w := by
  obtain ⟨r, hr⟩ : ∃ r, r = decide (1 ≤ k ∧ k ≤ 3) := ⟨_, rfl⟩
  rw [← hr]
  have Hr := Lib.hid hr
  clear hr
  by_cases h1 : k = 1
  · subst h1
    go_enter Tryd.func43, Tryd.ntmps43
    go_wp2_with fail
    go_ret
    exact ⟨by rw [Hr.out]; rfl, rfl⟩
  by_cases h2 : k = 2
  · subst h2
    go_enter Tryd.func43, Tryd.ntmps43
    go_wp2_with fail
    go_ret
    exact ⟨by rw [Hr.out]; rfl, rfl⟩
  by_cases h3 : k = 3
  · subst h3
    go_enter Tryd.func43, Tryd.ntmps43
    go_wp2_with fail
    go_ret
    exact ⟨by rw [Hr.out]; rfl, rfl⟩
  have q1 : (k == 1) = false := by simpa using h1
  have q2 : (k == 2) = false := by simpa using h2
  have q3 : (k == 3) = false := by simpa using h3
  have hf : r = false := by rw [Hr.out]; exact decide_eq_false (by omega)
  subst hf
  clear Hr h1 h2 h3
  go_enter Tryd.func43, Tryd.ntmps43
  go_wp2_with fail
  go_ret
  exact ⟨rfl, rfl⟩
theorem sgn_at {s : ByteArray} {k : Nat} (hk : k < s.size) (h : ∀ x ∈ byts s, sgn x) : sgn ((byts s).getD k 0) := h _ (by
  have : k < (byts s).length := by rw [byts_len]; exact hk
  simp [List.getD, List.getElem?_eq_getElem this])
theorem nameOk_of {s : ByteArray} (h1 : 1 ≤ s.size) (h2 : s.size ≤ 16) (h : ∀ j, j < s.size → sgn ((byts s).getD j 0)) : nameOk s := by
  refine ⟨h1, h2, fun x hx => ?_⟩
  obtain ⟨i, hi, e⟩ := List.getElem_of_mem hx
  have := h i (by rw [byts_len] at hi; exact hi)
  rw [List.getD, List.getElem?_eq_getElem hi] at this
  simp only [Option.getD_some] at this
  rw [e] at this
  exact this
set_option maxHeartbeats 1000000 in
theorem mayName_any (s : ByteArray) (w : World) :
    Calls Tryd.prog 42 #[.string s] w fun e w' => e = .returned (.bool (tr (nameOk s))) ∧ Below w.heap.size w w' := by
  by_cases h0 : s.size = 0
  · rw [tr_no (fun h => by have := h.1; omega)]
    have q0 : ((s.size : Int) == 0) = true := by simpa using h0
    clear h0
    go_enter Tryd.func42, Tryd.ntmps42
    go_wp2_with fail
    go_ret
    exact ⟨rfl, Below.refl _ _⟩
  have q0 : ((s.size : Int) == 0) = false := by simpa using h0
  have p0 : 0 < s.size := by omega
  by_cases h1 : 16 < s.size
  · rw [tr_no (fun h => by have := h.2.1; omega)]
    have q1 : (16 : Int) < (s.size : Int) := by omega
    clear h0 h1
    go_enter Tryd.func42, Tryd.ntmps42
    go_wp2_with fail
    go_ret
    exact ⟨rfl, Below.refl _ _⟩
  have q1 : ¬ (16 : Int) < (s.size : Int) := by omega
  have hcv := fun w => Vc.run_bytes w s
  have hsl := Vc.bytes_sl w s (by omega)
  have hb0 : Below w.heap.size w (w.drew.alloc (Vc.bobj w s)) := ((Below.refl w.heap.size w).drew).alloc (Nat.le_refl _) _
  rw [show w.drew.alloc (Vc.bobj w s) = (w.alloc (Vc.bobj w s)).drew from rfl] at hsl hb0
  have Hs := Lib.hid (show 1 ≤ s.size ∧ s.size ≤ 16 by omega)
  obtain ⟨r, hr⟩ : ∃ r, r = tr (nameOk s) := ⟨_, rfl⟩
  rw [← hr]
  have Hr := Lib.hid hr
  clear hr h0 h1
  go_enter Tryd.func42, Tryd.ntmps42
  go_wp2
  generalize (w.alloc (Vc.bobj w s)).drew = wa at *
  have hcap := hsl.cap
  have HS := Lib.hid hsl
  clear hsl
  go_loopw [4, 16] (fun _ i wr => ∃ k : Nat, i = .int .i64 k ∧ k ≤ s.size ∧ Hid (∀ j, j < k → sgn ((byts s).getD j 0)) ∧ wr = wa) (fun _ i _ => s.size - (intOf i).toNat)
  case atStart => exact ⟨0, rfl, Nat.zero_le _, Lib.hid (fun j hj => by omega), rfl⟩
  case round =>
    obtain ⟨k, rfl, hk, hf, rfl⟩ := hrel
    by_cases hlt : k < s.size
    · obtain ⟨b, o, he, hbB, hcell⟩ := HS.out.rd k (by rw [byts_len]; exact hlt)
      cases he
      obtain ⟨x, hx⟩ : ∃ x, x = (byts s).getD k 0 := ⟨_, rfl⟩
      rw [← hx, Nat.zero_add] at hcell
      have Hx := Lib.hid hx
      clear hx
      go_wp2_with fail
      refine (maySign_any x wr).mono ?_
      rintro e w1 ⟨rfl, rfl⟩
      cases hg : sgB x
      · have Hg := Lib.hid hg
        clear hg
        go_wp2_with fail
        go_ret
        refine ⟨?_, hb0⟩
        rw [Hr.out, tr_no (fun h => by
          have := sgn_at hlt h.2.2
          rw [← Hx.out, ← sgB_iff, Hg.out] at this
          cases this)]
        rfl
      · have Hg := Lib.hid hg
        clear hg
        go_wp2_with fail
        go_roundw
        case rel =>
          refine ⟨k + 1, by go_num, by omega, Lib.hid fun j hj => ?_, by first | rfl | trivial⟩
          by_cases hjk : j = k
          · rw [hjk, ← Hx.out]; exact (sgB_iff x).1 Hg.out
          · exact hf.out j (by omega)
        case measure => simp [intOf]; omega
    · have hkI : ¬ (k : Int) < s.size := by omega
      have e : r = true := by
        rw [Hr.out]
        exact tr_yes (nameOk_of Hs.out.1 Hs.out.2 fun j hj => hf.out j (by omega))
      have He := Lib.hid e
      clear e hf
      go_wp2_with fail
      go_ret
      exact ⟨by rw [He.out]; rfl, hb0⟩
end Sx
end Go.Proofs.YtdmgjeipkpbojaaDoor
namespace Go.Proofs.YtdmgjeipkpbojaaDoor
set_option maxRecDepth 20000
open Go.RowKit
namespace Sx
open Sc (Col Sch nameOk sgn tr tr_yes tr_no)
open Va (byts byts_len Vl)
theorem byts_at {s : ByteArray} {k : Nat} (h : k < s.size) : (byts s).getD k 0 = (s[k].toNat : Int) := by
  unfold byts
  have h' : k < s.data.size := h
  simp [List.getD, List.getElem?_map]
  rw [Array.getElem?_eq_getElem h']
  rfl
set_option maxHeartbeats 1000000 in
theorem refName_any (s : ByteArray) (w : World) :
    Calls Tryd.prog 29 #[.string s] w fun e w' => e = .returned (.bool (tr (nameOk s))) ∧ Below w.heap.size w w' := by
  by_cases h0 : s.size = 0
  · rw [tr_no (fun h => by have := h.1; omega)]
    have q0 : (s.size : Int) < 1 := by omega
    clear h0
    go_enter Tryd.func29, Tryd.ntmps29
    go_wp2_with fail
    go_ret
    exact ⟨rfl, Below.refl _ _⟩
  have q0 : ¬ (s.size : Int) < 1 := by omega
  by_cases h1 : 16 < s.size
  · rw [tr_no (fun h => by have := h.2.1; omega)]
    have q1 : (16 : Int) < (s.size : Int) := by omega
    clear h0 h1
    go_enter Tryd.func29, Tryd.ntmps29
    go_wp2_with fail
    go_ret
    exact ⟨rfl, Below.refl _ _⟩
  have q1 : ¬ (16 : Int) < (s.size : Int) := by omega
  have Hs := Lib.hid (show 1 ≤ s.size ∧ s.size ≤ 16 by omega)
  obtain ⟨r, hr⟩ : ∃ r, r = tr (nameOk s) := ⟨_, rfl⟩
  rw [← hr]
  have Hr := Lib.hid hr
  clear hr h0 h1
  go_enter Tryd.func29, Tryd.ntmps29
  go_wp2
  go_loopw [3, 4] (fun i _ wr => ∃ k : Nat, i = .int .i64 k ∧ k ≤ s.size ∧ Hid (∀ j, j < k → sgn ((byts s).getD j 0)) ∧ Below w.heap.size w wr) (fun i _ _ => s.size - (intOf i).toNat)
  case atStart => exact ⟨0, rfl, Nat.zero_le _, Lib.hid (fun j hj => by omega), Below.refl _ _⟩
  case round =>
    obtain ⟨k, rfl, hk, hf, hB⟩ := hrel
    by_cases hlt : k < s.size
    · have hI1 : (k : Int) < (s.size : Int) := by omega
      have Hx := Lib.hid (byts_at hlt)
      go_wp2_with fail
      all_goals first
        | (go_ret
           refine ⟨?_, hB⟩
           rw [Hr.out, tr_no (fun h => by
             have := sgn_at hlt h.2.2
             rw [Hx.out] at this
             unfold sgn at this
             simp_all <;> omega)]
           rfl)
        | (go_roundw
           case rel =>
             refine ⟨k + 1, by go_num, by omega, Lib.hid fun j hj => ?_, hB⟩
             by_cases hjk : j = k
             · rw [hjk, Hx.out]; unfold sgn; simp_all <;> omega
             · exact hf.out j (by omega)
           case measure => simp [intOf]; omega)
    · have hkI : ¬ (k : Int) < s.size := by omega
      have e : r = true := by
        rw [Hr.out]
        exact tr_yes (nameOk_of Hs.out.1 Hs.out.2 fun j hj => hf.out j (by omega))
      have He := Lib.hid e
      clear e hf
      go_wp2_with fail
      go_ret
      exact ⟨by rw [He.out]; rfl, hB⟩
end Sx
end Go.Proofs.YtdmgjeipkpbojaaDoor
