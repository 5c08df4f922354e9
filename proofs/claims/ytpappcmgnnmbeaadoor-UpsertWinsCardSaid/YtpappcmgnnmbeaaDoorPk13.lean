/- What maySign, mayName, mayKind and the reference's name do. What the reference's name, whole, Few and Light do. What isColumn, isFilled, isFilledWith, mayKey and the reference's whole do. What mayCols and schema.May do. -/
import Derived.WalkLawsBesides
import Derived.Test.YtpappcmgnnmbeaaDoorPk11
import Derived.Test.YtpappcmgnnmbeaaDoorPk12
import Derived.Test.YtpappcmgnnmbeaaDoorPk02
namespace Go.Proofs.YtpappcmgnnmbeaaDoor
set_option maxRecDepth 20000
open Go.RowKit
namespace Sx
open Sc (Col Sch nameOk sgn tr tr_yes tr_no)
open Va (byts byts_len)
/-- A sign of a name, as the machine tells it. -/
def sgB (x : Int) : Bool := (decide (97 ≤ x) && decide (x ≤ 122)) || (decide (48 ≤ x) && decide (x ≤ 57)) || decide (x = 95)
theorem sgB_iff (x : Int) : sgB x = true ↔ sgn x := by
  unfold sgB sgn
  simp [or_assoc]
theorem maySign_any (x : Int) (w : World) :
    Calls Tryd.prog 82 #[.int .u8 x] w fun e w' => e = .returned (.bool (sgB x)) ∧ w' = w := by
  obtain ⟨r, hr⟩ : ∃ r, r = sgB x := ⟨_, rfl⟩
  rw [← hr]
  have Hr := Lib.hid hr
  clear hr
  go_enter Tryd.func82, Tryd.ntmps82
  go_wp2_with fail
  all_goals (go_ret; refine ⟨?_, rfl⟩; rw [Hr.out]; unfold sgB; refine congrArg Ending.returned (congrArg Value.bool (?_ : _ = _)); rw [Bool.eq_iff_iff]; simp; omega)
theorem mayKind_any (k : Int) (w : World) :
    Calls Tryd.prog 75 #[.int .i64 k] w fun e w' => e = .returned (.bool (decide (1 ≤ k ∧ k ≤ 3))) ∧ w' = w := by
  obtain ⟨r, hr⟩ : ∃ r, r = decide (1 ≤ k ∧ k ≤ 3) := ⟨_, rfl⟩
  rw [← hr]
  have Hr := Lib.hid hr
  clear hr
  by_cases h1 : k = 1
  · subst h1
    go_enter Tryd.func75, Tryd.ntmps75
    go_wp2_with fail
    go_ret
    exact ⟨by rw [Hr.out]; rfl, rfl⟩
  by_cases h2 : k = 2
  · subst h2
    go_enter Tryd.func75, Tryd.ntmps75
    go_wp2_with fail
    go_ret
    exact ⟨by rw [Hr.out]; rfl, rfl⟩
  by_cases h3 : k = 3
  · subst h3
    go_enter Tryd.func75, Tryd.ntmps75
    go_wp2_with fail
    go_ret
    exact ⟨by rw [Hr.out]; rfl, rfl⟩
  have q1 : (k == 1) = false := by simpa using h1
  have q2 : (k == 2) = false := by simpa using h2
  have q3 : (k == 3) = false := by simpa using h3
  have hf : r = false := by rw [Hr.out]; exact decide_eq_false (by omega)
  subst hf
  clear Hr h1 h2 h3
  go_enter Tryd.func75, Tryd.ntmps75
  go_wp2_with fail
  go_ret
  exact ⟨rfl, rfl⟩
theorem sgn_at {s : ByteArray} {k : Nat} (hk : k < s.size) (h : ∀ x ∈ byts s, sgn x) : sgn ((byts s).getD k 0) := h _ (by
  have : k < (byts s).length := by rw [byts_len]; exact hk
  simp [List.getD, List.getElem?_eq_getElem this])
theorem nameOk_of {s : ByteArray} (h1 : 1 ≤ s.size) (h2 : s.size ≤ 16) (h : ∀ j, j < s.size → sgn ((byts s).getD j 0)) : nameOk s := by
  refine ⟨h1, h2, fun x hx => ?_⟩
  obtain ⟨i, hi, e⟩ := List.getElem_of_mem hx
  have := h i (by rw [byts_len] at hi; exact hi)
  rw [List.getD, List.getElem?_eq_getElem hi] at this
  simp only [Option.getD_some] at this
  rw [e] at this
  exact this
set_option maxHeartbeats 1000000 in
theorem mayName_any (s : ByteArray) (w : World) :
    Calls Tryd.prog 73 #[.string s] w fun e w' => e = .returned (.bool (tr (nameOk s))) ∧ Below w.heap.size w w' := by
  by_cases h0 : s.size = 0
  · rw [tr_no (fun h => by have := h.1; omega)]
    have q0 : ((s.size : Int) == 0) = true := by simpa using h0
    clear h0
    go_enter Tryd.func73, Tryd.ntmps73
    go_wp2_with fail
    go_ret
    exact ⟨rfl, Below.refl _ _⟩
  have q0 : ((s.size : Int) == 0) = false := by simpa using h0
  have p0 : 0 < s.size := by omega
  by_cases h1 : 16 < s.size
  · rw [tr_no (fun h => by have := h.2.1; omega)]
    have q1 : (16 : Int) < (s.size : Int) := by omega
    clear h0 h1
    go_enter Tryd.func73, Tryd.ntmps73
    go_wp2_with fail
    go_ret
    exact ⟨rfl, Below.refl _ _⟩
  have q1 : ¬ (16 : Int) < (s.size : Int) := by omega
  have hcv := fun w => Vc.run_bytes w s
  have hsl := Vc.bytes_sl w s (by omega)
  have hb0 : Below w.heap.size w (w.drew.alloc (Vc.bobj w s)) := ((Below.refl w.heap.size w).drew).alloc (Nat.le_refl _) _
  rw [show w.drew.alloc (Vc.bobj w s) = (w.alloc (Vc.bobj w s)).drew from rfl] at hsl hb0
  have Hs := Lib.hid (show 1 ≤ s.size ∧ s.size ≤ 16 by omega)
  obtain ⟨r, hr⟩ : ∃ r, r = tr (nameOk s) := ⟨_, rfl⟩
  rw [← hr]
  have Hr := Lib.hid hr
  clear hr h0 h1
  go_enter Tryd.func73, Tryd.ntmps73
  go_wp2
  generalize (w.alloc (Vc.bobj w s)).drew = wa at *
  have hcap := hsl.cap
  have HS := Lib.hid hsl
  clear hsl
  go_loopw [4, 16] (fun _ i wr => ∃ k : Nat, i = .int .i64 k ∧ k ≤ s.size ∧ Hid (∀ j, j < k → sgn ((byts s).getD j 0)) ∧ wr = wa) (fun _ i _ => s.size - (intOf i).toNat)
  case atStart => exact ⟨0, rfl, Nat.zero_le _, Lib.hid (fun j hj => by omega), rfl⟩
  case round =>
    obtain ⟨k, rfl, hk, hf, rfl⟩ := hrel
    by_cases hlt : k < s.size
    · obtain ⟨b, o, he, hbB, hcell⟩ := HS.out.rd k (by rw [byts_len]; exact hlt)
      cases he
      obtain ⟨x, hx⟩ : ∃ x, x = (byts s).getD k 0 := ⟨_, rfl⟩
      rw [← hx, Nat.zero_add] at hcell
      have Hx := Lib.hid hx
      clear hx
      go_wp2_with fail
      refine (maySign_any x wr).mono ?_
      rintro e w1 ⟨rfl, rfl⟩
      cases hg : sgB x
      · have Hg := Lib.hid hg
        clear hg
        go_wp2_with fail
        go_ret
        refine ⟨?_, hb0⟩
        rw [Hr.out, tr_no (fun h => by
          have := sgn_at hlt h.2.2
          rw [← Hx.out, ← sgB_iff, Hg.out] at this
          cases this)]
        rfl
      · have Hg := Lib.hid hg
        clear hg
        go_wp2_with fail
        go_roundw
        case rel =>
          refine ⟨k + 1, by go_num, by omega, Lib.hid fun j hj => ?_, by first | rfl | trivial⟩
          by_cases hjk : j = k
          · rw [hjk, ← Hx.out]; exact (sgB_iff x).1 Hg.out
          · exact hf.out j (by omega)
        case measure => simp [intOf]; omega
    · have hkI : ¬ (k : Int) < s.size := by omega
      have e : r = true := by
        rw [Hr.out]
        exact tr_yes (nameOk_of Hs.out.1 Hs.out.2 fun j hj => hf.out j (by omega))
      have He := Lib.hid e
      clear e hf
      go_wp2_with fail
      go_ret
      exact ⟨by rw [He.out]; rfl, hb0⟩
end Sx
end Go.Proofs.YtpappcmgnnmbeaaDoor
namespace Go.Proofs.YtpappcmgnnmbeaaDoor
set_option maxRecDepth 20000
open Go.RowKit
namespace Sx
open Sc (Col Sch nameOk sgn tr tr_yes tr_no)
open Va (byts byts_len Vl)
theorem byts_at {s : ByteArray} {k : Nat} (h : k < s.size) : (byts s).getD k 0 = (s[k].toNat : Int) := by
  unfold byts
  have h' : k < s.data.size := h
  simp [List.getD, List.getElem?_map]
  rw [Array.getElem?_eq_getElem h']
  rfl
set_option maxHeartbeats 1000000 in
theorem refName_any (s : ByteArray) (w : World) :
    Calls Tryd.prog 59 #[.string s] w fun e w' => e = .returned (.bool (tr (nameOk s))) ∧ Below w.heap.size w w' := by
  by_cases h0 : s.size = 0
  · rw [tr_no (fun h => by have := h.1; omega)]
    have q0 : (s.size : Int) < 1 := by omega
    clear h0
    go_enter Tryd.func59, Tryd.ntmps59
    go_wp2_with fail
    go_ret
    exact ⟨rfl, Below.refl _ _⟩
  have q0 : ¬ (s.size : Int) < 1 := by omega
  by_cases h1 : 16 < s.size
  · rw [tr_no (fun h => by have := h.2.1; omega)]
    have q1 : (16 : Int) < (s.size : Int) := by omega
    clear h0 h1
    go_enter Tryd.func59, Tryd.ntmps59
    go_wp2_with fail
    go_ret
    exact ⟨rfl, Below.refl _ _⟩
  have q1 : ¬ (16 : Int) < (s.size : Int) := by omega
  have Hs := Lib.hid (show 1 ≤ s.size ∧ s.size ≤ 16 by omega)
  obtain ⟨r, hr⟩ : ∃ r, r = tr (nameOk s) := ⟨_, rfl⟩
  rw [← hr]
  have Hr := Lib.hid hr
  clear hr h0 h1
  go_enter Tryd.func59, Tryd.ntmps59
  go_wp2
  go_loopw [3, 4] (fun i _ wr => ∃ k : Nat, i = .int .i64 k ∧ k ≤ s.size ∧ Hid (∀ j, j < k → sgn ((byts s).getD j 0)) ∧ Below w.heap.size w wr) (fun i _ _ => s.size - (intOf i).toNat)
  case atStart => exact ⟨0, rfl, Nat.zero_le _, Lib.hid (fun j hj => by omega), Below.refl _ _⟩
  case round =>
    obtain ⟨k, rfl, hk, hf, hB⟩ := hrel
    by_cases hlt : k < s.size
    · have hI1 : (k : Int) < (s.size : Int) := by omega
      have Hx := Lib.hid (byts_at hlt)
      go_wp2_with fail
      all_goals first
        | (go_ret
           refine ⟨?_, hB⟩
           rw [Hr.out, tr_no (fun h => by
             have := sgn_at hlt h.2.2
             rw [Hx.out] at this
             unfold sgn at this
             simp_all <;> omega)]
           rfl)
        | (go_roundw
           case rel =>
             refine ⟨k + 1, by go_num, by omega, Lib.hid fun j hj => ?_, hB⟩
             by_cases hjk : j = k
             · rw [hjk, Hx.out]; unfold sgn; simp_all <;> omega
             · exact hf.out j (by omega)
           case measure => simp [intOf]; omega)
    · have hkI : ¬ (k : Int) < s.size := by omega
      have e : r = true := by
        rw [Hr.out]
        exact tr_yes (nameOk_of Hs.out.1 Hs.out.2 fun j hj => hf.out j (by omega))
      have He := Lib.hid e
      clear e hf
      go_wp2_with fail
      go_ret
      exact ⟨by rw [He.out]; rfl, hB⟩
end Sx
end Go.Proofs.YtpappcmgnnmbeaaDoor
namespace Go.Proofs.YtpappcmgnnmbeaaDoor
set_option maxRecDepth 20000
open Go.RowKit
namespace Sx
open Sc (Col Sch nameOk sgn tr tr_yes tr_no whole whole1 MayK whole_get whole1_get)
/-- A schema's value. -/
theorem isColumn_any (A : Option Addr) (n c : Nat) (s : Sch) (i : Int) (w : World) (hS : Wd.Cs w A n c s.cols) :
    Calls Tryd.prog 58 #[.agg #[.slice A n c, .int .i64 s.key, .int .i64 s.cmp, .int .i64 s.del, .int .i64 s.sort], .int .i64 i] w fun e w' => e = .returned (.bool (decide (0 ≤ i ∧ i < s.cols.length))) ∧ Below w.heap.size w w' := by
  rw [← hS.len]
  clear hS
  by_cases h0 : 0 ≤ i
  · by_cases h1 : i < n
    · rw [decide_eq_true ⟨h0, h1⟩]
      go_enter Tryd.func58, Tryd.ntmps58
      go_wp2_with fail
      go_ret
      exact ⟨rfl, (Below.refl _ _).alloc (Nat.le_refl _) _⟩
    · rw [decide_eq_false (fun h => h1 h.2)]
      go_enter Tryd.func58, Tryd.ntmps58
      go_wp2_with fail
      go_ret
      exact ⟨rfl, (Below.refl _ _).alloc (Nat.le_refl _) _⟩
  · rw [decide_eq_false (fun h => h0 h.1)]
    go_enter Tryd.func58, Tryd.ntmps58
    go_wp2_with fail
    go_ret
    exact ⟨rfl, (Below.refl _ _).alloc (Nat.le_refl _) _⟩
set_option maxHeartbeats 1000000 in
theorem isFilled_any (A : Option Addr) (n c : Nat) (s : Sch) (i : Int) (w : World) (hS : Wd.Cs w A n c s.cols) :
    Calls Tryd.prog 76 #[.agg #[.slice A n c, .int .i64 s.key, .int .i64 s.cmp, .int .i64 s.del, .int .i64 s.sort], .int .i64 i] w fun e w' => e = .returned (.bool (tr (whole s i))) ∧ Below w.heap.size w w' := by
  have hb0 := (Below.refl w.heap.size w).alloc (Nat.le_refl _) (.cells #[.slice A n c, .int .i64 s.key, .int .i64 s.cmp, .int .i64 s.del, .int .i64 s.sort] 24)
  have s0 : Sb (w.alloc (.cells #[.slice A n c, .int .i64 s.key, .int .i64 s.cmp, .int .i64 s.del, .int .i64 s.sort] 24)) w.heap.size A n c s.key s.cmp s.del s.sort := Wd.Bx.new w _ _
  have Cc := Lib.hid (isColumn_any A n c s i _ (hS.below hb0))
  have Hl := Lib.hid hS.len
  have HS := Lib.hid (hS.below hb0)
  clear hS
  by_cases h : 0 ≤ i ∧ i < s.cols.length
  · rw [decide_eq_true h] at Cc
    obtain ⟨h0, h1⟩ := h
    have h1' : i < (n : Int) := by rw [Hl.out]; exact h1
    obtain ⟨k, rfl⟩ : ∃ k : Nat, i = k := ⟨i.toNat, by omega⟩
    obtain ⟨b, o, hA, hbB, c0, c1, c2, _⟩ := HS.out.cells (j := k) (by omega) rfl
    subst hA
    obtain ⟨x, hx⟩ : ∃ x, x = s.cols.getD k default := ⟨_, rfl⟩
    rw [← hx] at c0 c1 c2
    have ht : tr (whole s k) = !x.nul := by
      cases q : x.nul
      · exact tr_yes ((whole_get s k).2 ⟨by omega, h1, by rw [Int.toNat_natCast, ← hx]; exact q⟩)
      · exact tr_no fun h => by
          have := ((whole_get s k).1 h).2.2
          rw [Int.toNat_natCast, ← hx, q] at this
          cases this
    rw [ht]
    clear ht hx h0 h1
    generalize x.nul = q at *
    go_enter Tryd.func76, Tryd.ntmps76
    go_wp2_with fail
    refine Cc.out.mono ?_
    rintro e w1 ⟨rfl, hB1⟩
    generalize w.alloc (.cells #[.slice (some ⟨b, o, none⟩) n c, .int .i64 s.key, .int .i64 s.cmp, .int .i64 s.del, .int .i64 s.sort] 24) = wa at *
    obtain ⟨q0, -, -, -, -⟩ := five (s0.below (Wd.Bx.lt s0) hB1)
    have c2' := (hB1.cell (p := ⟨b, o + k * 3 + 2, none⟩) hbB).trans c2
    clear c0 c1 c2 s0
    go_wp2_with fail
    go_ret
    exact ⟨rfl, hb0.trans (hB1.mono hb0.size)⟩
  · rw [decide_eq_false h] at Cc
    have ht : tr (whole s i) = false := tr_no fun q => h ⟨((whole_get s i).1 q).1, ((whole_get s i).1 q).2.1⟩
    rw [ht]
    clear ht h
    go_enter Tryd.func76, Tryd.ntmps76
    go_wp2_with fail
    refine Cc.out.mono ?_
    rintro e w1 ⟨rfl, hB1⟩
    go_wp2_with fail
    go_ret
    exact ⟨rfl, hb0.trans (hB1.mono hb0.size)⟩
set_option maxHeartbeats 1000000 in
theorem isFilledWith_any (A : Option Addr) (n c : Nat) (s : Sch) (i kd : Int) (w : World) (hS : Wd.Cs w A n c s.cols) :
    Calls Tryd.prog 77 #[.agg #[.slice A n c, .int .i64 s.key, .int .i64 s.cmp, .int .i64 s.del, .int .i64 s.sort], .int .i64 i, .int .i64 kd] w fun e w' => e = .returned (.bool (tr (whole1 s i kd))) ∧ Below w.heap.size w w' := by
  have hb0 := (Below.refl w.heap.size w).alloc (Nat.le_refl _) (.cells #[.slice A n c, .int .i64 s.key, .int .i64 s.cmp, .int .i64 s.del, .int .i64 s.sort] 24)
  have s0 : Sb (w.alloc (.cells #[.slice A n c, .int .i64 s.key, .int .i64 s.cmp, .int .i64 s.del, .int .i64 s.sort] 24)) w.heap.size A n c s.key s.cmp s.del s.sort := Wd.Bx.new w _ _
  have Cc := Lib.hid (isFilled_any A n c s i _ (hS.below hb0))
  have Hl := Lib.hid hS.len
  have HS := Lib.hid (hS.below hb0)
  clear hS
  by_cases h : whole s i
  · rw [tr_yes h] at Cc
    obtain ⟨h0, h1, -⟩ := (whole_get s i).1 h
    have Hw := Lib.hid h
    clear h
    have h1' : i < (n : Int) := by rw [Hl.out]; exact h1
    obtain ⟨k, rfl⟩ : ∃ k : Nat, i = k := ⟨i.toNat, by omega⟩
    obtain ⟨b, o, hA, hbB, c0, c1, c2, _⟩ := HS.out.cells (j := k) (by omega) rfl
    subst hA
    obtain ⟨x, hx⟩ : ∃ x, x = s.cols.getD k default := ⟨_, rfl⟩
    rw [← hx] at c0 c1 c2
    have ht : tr (whole1 s k kd) = (x.kind == kd) := by
      by_cases q : x.kind = kd
      · rw [tr_yes ((whole1_get s k kd).2 ⟨Hw.out, by rw [Int.toNat_natCast, ← hx]; exact q⟩)]
        simp [q]
      · rw [tr_no fun h => q (by have := ((whole1_get s k kd).1 h).2; rw [Int.toNat_natCast, ← hx] at this; exact this)]
        simp [q]
    rw [ht]
    clear ht hx h0 h1
    generalize x.kind = q at *
    go_enter Tryd.func77, Tryd.ntmps77
    go_wp2_with fail
    refine Cc.out.mono ?_
    rintro e w1 ⟨rfl, hB1⟩
    generalize w.alloc (.cells #[.slice (some ⟨b, o, none⟩) n c, .int .i64 s.key, .int .i64 s.cmp, .int .i64 s.del, .int .i64 s.sort] 24) = wa at *
    obtain ⟨q0, -, -, -, -⟩ := five (s0.below (Wd.Bx.lt s0) hB1)
    have c1' := (hB1.cell (p := ⟨b, o + k * 3 + 1, none⟩) hbB).trans c1
    clear c0 c1 c2 s0
    go_wp2_with fail
    go_ret
    exact ⟨rfl, hb0.trans (hB1.mono hb0.size)⟩
  · rw [tr_no h] at Cc
    have ht : tr (whole1 s i kd) = false := tr_no fun q => h ((whole1_get s i kd).1 q).1
    rw [ht]
    clear ht h
    go_enter Tryd.func77, Tryd.ntmps77
    go_wp2_with fail
    refine Cc.out.mono ?_
    rintro e w1 ⟨rfl, hB1⟩
    go_wp2_with fail
    go_ret
    exact ⟨rfl, hb0.trans (hB1.mono hb0.size)⟩
/-- Key, Cmp and Del, as the machine tells it. -/
theorem mayK_b (s : Sch) : tr (MayK s) = if s.key = -1 then (s.cmp == -1 && s.del == -1) else (tr (whole s s.key) && (tr (whole1 s s.cmp 1) && (s.del == -1 || tr (whole1 s s.del 3)))) := by
  rw [Bool.eq_iff_iff, Sc.tr_iff]
  unfold MayK
  split
  · rename_i h; simp [h]
  · rename_i h; simp [h, Sc.tr_iff]
set_option maxHeartbeats 2000000 in
theorem mayKey_any (A : Option Addr) (n c : Nat) (s : Sch) (w : World) (hS : Wd.Cs w A n c s.cols) :
    Calls Tryd.prog 57 #[.agg #[.slice A n c, .int .i64 s.key, .int .i64 s.cmp, .int .i64 s.del, .int .i64 s.sort]] w fun e w' => e = .returned (.bool (tr (MayK s))) ∧ Below w.heap.size w w' := by
  rw [mayK_b]
  have hb0 := (Below.refl w.heap.size w).alloc (Nat.le_refl _) (.cells #[.slice A n c, .int .i64 s.key, .int .i64 s.cmp, .int .i64 s.del, .int .i64 s.sort] 24)
  have s0 : Sb (w.alloc (.cells #[.slice A n c, .int .i64 s.key, .int .i64 s.cmp, .int .i64 s.del, .int .i64 s.sort] 24)) w.heap.size A n c s.key s.cmp s.del s.sort := Wd.Bx.new w _ _
  have Cf := Lib.hid fun w' hb => isFilled_any A n c s s.key w' (hS.below (w' := w') hb)
  have Cc := Lib.hid fun w' hb => isFilledWith_any A n c s s.cmp 1 w' (hS.below (w' := w') hb)
  have Cd := Lib.hid fun w' hb => isFilledWith_any A n c s s.del 3 w' (hS.below (w' := w') hb)
  clear hS
  generalize s.key = key at *
  generalize s.cmp = cmp at *
  generalize s.del = del at *
  generalize s.sort = sort at *
  by_cases hk : key = -1
  · subst hk
    rw [if_pos rfl]
    by_cases hp : cmp = -1
    · subst hp
      go_enter Tryd.func57, Tryd.ntmps57
      go_wp2_with fail
      go_ret
      exact ⟨by simp, hb0⟩
    · have qp : (cmp == -1) = false := by simpa using hp
      rw [qp]
      clear hp
      go_enter Tryd.func57, Tryd.ntmps57
      go_wp2_with fail
      go_ret
      exact ⟨by simp, hb0⟩
  · rw [if_neg hk]
    have qk : (key == -1) = false := by simpa using hk
    have hz := hb0.size
    generalize tr (whole s key) = r1 at *
    generalize tr (whole1 s cmp 1) = r2 at *
    generalize tr (whole1 s del 3) = r3 at *
    clear hk
    have s0' := Lib.hid s0
    clear s0
    go_enter Tryd.func57, Tryd.ntmps57
    go_wp2_with fail
    refine (Cf.out _ hb0).mono ?_
    rintro e w1 ⟨rfl, hB1⟩
    generalize w.alloc (.cells #[.slice A n c, .int .i64 key, .int .i64 cmp, .int .i64 del, .int .i64 sort] 24) = wa at *
    have s1 := s0'.out.below (Wd.Bx.lt s0'.out) hB1
    have hb1 := hb0.trans (hB1.mono hb0.size)
    obtain ⟨q0, q1, q2, q3, q4⟩ := five s1
    cases r1
    · go_wp2_with fail
      go_ret
      exact ⟨rfl, hb1⟩
    · go_wp2_with fail
      refine (Cc.out _ hb1).mono ?_
      rintro e w2 ⟨rfl, hB2⟩
      have s2 := s1.below (Wd.Bx.lt s1) hB2
      have hb2 := hb1.trans (hB2.mono hb1.size)
      clear q0 q1 q2 q3 q4 s0'
      obtain ⟨q0, q1, q2, q3, q4⟩ := five s2
      cases r2
      · go_wp2_with fail
        go_ret
        exact ⟨rfl, hb2⟩
      · by_cases hd : del = -1
        · subst hd
          go_wp2_with fail
          go_ret
          exact ⟨rfl, hb2⟩
        · have qd : (del == -1) = false := by simpa using hd
          clear hd
          go_wp2_with fail
          refine (Cd.out _ hb2).mono ?_
          rintro e w3 ⟨rfl, hB3⟩
          go_wp2_with fail
          go_ret
          exact ⟨by simp [qd], hb2.trans (hB3.mono hb2.size)⟩
end Sx
end Go.Proofs.YtpappcmgnnmbeaaDoor
namespace Go.Proofs.YtpappcmgnnmbeaaDoor
set_option maxRecDepth 20000
open Go.RowKit
namespace Sx
open Sc (Col Sch nameOk sgn tr tr_yes tr_no MayC MayK MayS mayC_find mayS_iff findF)
/-- A column that may be, as the program holds it against the others. -/
def okF (os : List Col) (i : Nat) : Prop := nameOk (os.getD i default).name ∧ findF os (os.getD i default).name 0 = i ∧ 1 ≤ (os.getD i default).kind ∧ (os.getD i default).kind ≤ 3
set_option maxHeartbeats 2000000 in
theorem mayCols_any (A : Option Addr) (n c : Nat) (s : Sch) (w : World) (hS : Wd.Cs w A n c s.cols) (hn : n ≤ 1000000) :
    Calls Tryd.prog 56 #[.agg #[.slice A n c, .int .i64 s.key, .int .i64 s.cmp, .int .i64 s.del, .int .i64 s.sort]] w fun e w' => e = .returned (.bool (tr (MayC s.cols))) ∧ Below w.heap.size w w' := by
  have hb0 := (Below.refl w.heap.size w).alloc (Nat.le_refl _) (.cells #[.slice A n c, .int .i64 s.key, .int .i64 s.cmp, .int .i64 s.del, .int .i64 s.sort] 24)
  have s0 : Sb (w.alloc (.cells #[.slice A n c, .int .i64 s.key, .int .i64 s.cmp, .int .i64 s.del, .int .i64 s.sort] 24)) w.heap.size A n c s.key s.cmp s.del s.sort := Wd.Bx.new w _ _
  have Hl := Lib.hid hS.len
  have HS := Lib.hid (hS.below hb0)
  have hcap := hS.cap
  obtain ⟨r, hr⟩ : ∃ r, r = tr (MayC s.cols) := ⟨_, rfl⟩
  rw [← hr]
  have Hr := Lib.hid hr
  clear hr hS
  generalize s.key = key at *
  generalize s.cmp = cmp at *
  generalize s.del = del at *
  generalize s.sort = sort at *
  by_cases h0 : n = 0
  · have e : r = false := by rw [Hr.out]; exact tr_no fun h => by have := h.1; have := Hl.out; omega
    subst e
    have q0 : ((n : Int) == 0) = true := by simpa using h0
    clear h0
    go_enter Tryd.func56, Tryd.ntmps56
    go_wp2_with fail
    go_ret
    exact ⟨rfl, hb0⟩
  have q0 : ((n : Int) == 0) = false := by simpa using h0
  by_cases h8 : 8 < n
  · have e : r = false := by rw [Hr.out]; exact tr_no fun h => by have := h.2.1; have := Hl.out; omega
    subst e
    have q1 : (8 : Int) < (n : Int) := by omega
    clear h0 h8
    go_enter Tryd.func56, Tryd.ntmps56
    go_wp2_with fail
    go_ret
    exact ⟨rfl, hb0⟩
  have q1 : ¬ (8 : Int) < (n : Int) := by omega
  have Hn := Lib.hid (show 1 ≤ n ∧ n ≤ 8 by omega)
  clear h0 h8
  go_enter Tryd.func56, Tryd.ntmps56
  go_wp2
  generalize w.alloc (.cells #[.slice A n c, .int .i64 key, .int .i64 cmp, .int .i64 del, .int .i64 sort] 24) = wa at *
  have s0' := Lib.hid s0
  clear s0
  go_loopw [18] (fun i wr => ∃ k : Nat, i = .int .i64 k ∧ k ≤ n ∧ Hid (∀ j, j < k → okF s.cols j) ∧ Below wa.heap.size wa wr) (fun i _ => n - (intOf i).toNat)
  case atStart => exact ⟨0, rfl, Nat.zero_le _, Lib.hid (fun j hj => by omega), Below.refl _ _⟩
  case round =>
    obtain ⟨k, rfl, hk, hf, hB⟩ := hrel
    have hbr := hb0.trans (hB.mono hb0.size)
    by_cases hlt : k < n
    · obtain ⟨b, o, hA, hbB, c0, c1, c2, _⟩ := (HS.out.below hB).cells (j := k) (by rw [← Hl.out]; exact hlt) rfl
      subst hA
      obtain ⟨x, hx⟩ : ∃ x, x = s.cols.getD k default := ⟨_, rfl⟩
      rw [← hx] at c0 c1 c2
      have Hx := Lib.hid hx
      clear hx
      have sr := s0'.out.below (Wd.Bx.lt s0'.out) hB
      have hb1 := (Below.refl wr.heap.size wr).alloc (Nat.le_refl _) (.cells #[.string x.name, .int .i64 x.kind, .bool x.nul] 71)
      have x1 : Cb (wr.alloc (.cells #[.string x.name, .int .i64 x.kind, .bool x.nul] 71)) wr.heap.size x.name x.kind x.nul := Wd.Bx.new wr _ _
      have s1 := sr.below (Wd.Bx.lt sr) hb1
      have Cf := Lib.hid fun w' (hb : Below wr.heap.size wr w') => Find_any (some ⟨b, o, none⟩) n c s.cols key cmp del sort x.name w' ((HS.out.below hB).below hb) hn
      have hZ := hB.size
      clear sr
      go_wp2_with fail
      generalize wr.alloc (.cells #[.string x.name, .int .i64 x.kind, .bool x.nul] 71) = w1 at *
      refine (mayName_any x.name w1).mono ?_
      rintro e w2 ⟨rfl, hB2⟩
      have hb2 := hb1.trans (hB2.mono hb1.size)
      have x2 := x1.below (Wd.Bx.lt x1) hB2
      have s2 := s1.below (Wd.Bx.lt s1) hB2
      have hw2 := hB.trans (hb2.mono hZ)
      clear x1 s1 c0 c1 c2
      by_cases hN : nameOk x.name
      · rw [tr_yes hN]
        have HN := Lib.hid hN
        clear hN
        obtain ⟨p0, p1, p2, p3, p4⟩ := five s2
        obtain ⟨z0, z1, z2⟩ := three x2
        go_wp2_with fail
        refine (Cf.out _ hb2).mono ?_
        rintro e w3 ⟨rfl, hB3⟩
        have hb3 := hb2.trans (hB3.mono hb2.size)
        have hw3 := hB.trans (hb3.mono hZ)
        have x3 := x2.below (Wd.Bx.lt x2) hB3
        clear p0 p1 p2 p3 p4 z0 z1 z2 s2 x2
        obtain ⟨z0, z1, z2⟩ := three x3
        by_cases hF : findF s.cols x.name 0 = k
        · have HF := Lib.hid hF
          rw [hF]
          clear hF
          go_wp2_with fail
          refine (mayKind_any x.kind w3).mono ?_
          rintro e w4 ⟨rfl, rfl⟩
          by_cases hK : 1 ≤ x.kind ∧ x.kind ≤ 3
          · rw [decide_eq_true hK]
            have HK := Lib.hid hK
            clear hK
            go_wp2_with fail
            go_roundw
            case rel =>
              refine ⟨k + 1, by go_num, by omega, Lib.hid fun j hj => ?_, hw3⟩
              by_cases hjk : j = k
              · rw [hjk]; unfold okF; rw [← Hx.out]; exact ⟨HN.out, HF.out, HK.out⟩
              · exact hf.out j (by omega)
            case measure => simp [intOf]; omega
          · rw [decide_eq_false hK]
            have e : r = false := by
              rw [Hr.out]
              exact tr_no fun h => hK (by
                have := (((mayC_find _).1 h).2.2 k (by rw [← Hl.out]; exact hlt)).2.2
                rw [← Hx.out] at this; exact this)
            have He := Lib.hid e
            clear e hK
            go_wp2_with fail
            go_ret
            exact ⟨by rw [He.out]; rfl, hb0.trans (hw3.mono hb0.size)⟩
        · have e : r = false := by
            rw [Hr.out]
            exact tr_no fun h => hF (by
              have := (((mayC_find _).1 h).2.2 k (by rw [← Hl.out]; exact hlt)).2.1
              rw [← Hx.out] at this; exact this)
          have He := Lib.hid e
          have hF' : (findF s.cols x.name 0 != (k : Int)) = true := by simpa using hF
          generalize findF s.cols x.name 0 = fd at *
          clear e hF
          go_wp2_with fail
          go_ret
          exact ⟨by rw [He.out]; rfl, hb0.trans (hw3.mono hb0.size)⟩
      · rw [tr_no hN]
        have e : r = false := by
          rw [Hr.out]
          exact tr_no fun h => hN (by
            have := (((mayC_find _).1 h).2.2 k (by rw [← Hl.out]; exact hlt)).1
            rw [← Hx.out] at this; exact this)
        have He := Lib.hid e
        clear e hN
        go_wp2_with fail
        go_ret
        exact ⟨by rw [He.out]; rfl, hb0.trans (hw2.mono hb0.size)⟩
    · have hkI : ¬ (k : Int) < n := by omega
      have e : r = true := by
        rw [Hr.out]
        exact tr_yes ((mayC_find _).2 ⟨by have := Hn.out; have := Hl.out; omega, by have := Hn.out; have := Hl.out; omega, fun i hi => hf.out i (by have := Hl.out; omega)⟩)
      have He := Lib.hid e
      clear e hf
      go_wp2_with fail
      go_ret
      exact ⟨by rw [He.out]; rfl, hbr⟩
theorem mayS_b (s : Sch) : tr (MayS s) = (tr (MayC s.cols) && (tr (MayK s) && (s.sort == -1 || decide (0 ≤ s.sort ∧ s.sort < s.cols.length)))) := by
  rw [Bool.eq_iff_iff, Sc.tr_iff, mayS_iff]
  simp only [Bool.and_eq_true, Sc.tr_iff, Bool.or_eq_true, beq_iff_eq, decide_eq_true_eq]
  constructor
  · rintro ⟨a, b, c, d⟩
    exact ⟨a, b, by omega⟩
  · rintro ⟨a, b, c⟩
    exact ⟨a, b, by rcases c with c | c <;> omega, by have := a.1; rcases c with c | c <;> omega⟩
set_option maxHeartbeats 2000000 in
theorem May_any (A : Option Addr) (n c : Nat) (s : Sch) (w : World) (hS : Wd.Cs w A n c s.cols) (hn : n ≤ 1000000) :
    Calls Tryd.prog 33 #[.agg #[.slice A n c, .int .i64 s.key, .int .i64 s.cmp, .int .i64 s.del, .int .i64 s.sort]] w fun e w' => e = .returned (.bool (tr (MayS s))) ∧ Below w.heap.size w w' := by
  rw [mayS_b]
  have hb0 := (Below.refl w.heap.size w).alloc (Nat.le_refl _) (.cells #[.slice A n c, .int .i64 s.key, .int .i64 s.cmp, .int .i64 s.del, .int .i64 s.sort] 24)
  have s0 : Sb (w.alloc (.cells #[.slice A n c, .int .i64 s.key, .int .i64 s.cmp, .int .i64 s.del, .int .i64 s.sort] 24)) w.heap.size A n c s.key s.cmp s.del s.sort := Wd.Bx.new w _ _
  have Cf := Lib.hid fun w' hb => mayCols_any A n c s w' (hS.below (w' := w') hb) hn
  have Cc := Lib.hid fun w' hb => mayKey_any A n c s w' (hS.below (w' := w') hb)
  have Cd := Lib.hid fun w' hb => isColumn_any A n c s s.sort w' (hS.below (w' := w') hb)
  clear hS
  generalize tr (MayC s.cols) = r1 at *
  generalize tr (MayK s) = r2 at *
  generalize decide (0 ≤ s.sort ∧ s.sort < s.cols.length) = r3 at *
  generalize s.key = key at *
  generalize s.cmp = cmp at *
  generalize s.del = del at *
  generalize s.sort = sort at *
  have s0' := Lib.hid s0
  clear s0
  go_enter Tryd.func33, Tryd.ntmps33
  go_wp2_with fail
  refine (Cf.out _ hb0).mono ?_
  rintro e w1 ⟨rfl, hB1⟩
  generalize w.alloc (.cells #[.slice A n c, .int .i64 key, .int .i64 cmp, .int .i64 del, .int .i64 sort] 24) = wa at *
  have s1 := s0'.out.below (Wd.Bx.lt s0'.out) hB1
  have hb1 := hb0.trans (hB1.mono hb0.size)
  obtain ⟨q0, q1, q2, q3, q4⟩ := five s1
  cases r1
  · go_wp2_with fail
    go_ret
    exact ⟨rfl, hb1⟩
  · go_wp2_with fail
    refine (Cc.out _ hb1).mono ?_
    rintro e w2 ⟨rfl, hB2⟩
    have s2 := s1.below (Wd.Bx.lt s1) hB2
    have hb2 := hb1.trans (hB2.mono hb1.size)
    clear q0 q1 q2 q3 q4 s0'
    obtain ⟨q0, q1, q2, q3, q4⟩ := five s2
    cases r2
    · go_wp2_with fail
      go_ret
      exact ⟨rfl, hb2⟩
    · by_cases hd : sort = -1
      · subst hd
        go_wp2_with fail
        go_ret
        exact ⟨rfl, hb2⟩
      · have qd : (sort == -1) = false := by simpa using hd
        clear hd
        go_wp2_with fail
        refine (Cd.out _ hb2).mono ?_
        rintro e w3 ⟨rfl, hB3⟩
        go_wp2_with fail
        go_ret
        exact ⟨by simp [qd], hb2.trans (hB3.mono hb2.size)⟩
end Sx
end Go.Proofs.YtpappcmgnnmbeaaDoor
