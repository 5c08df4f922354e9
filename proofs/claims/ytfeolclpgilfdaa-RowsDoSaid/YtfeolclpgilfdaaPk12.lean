/- What the reference of layer 6 does: Put. What maySign, mayName, mayKind and the reference's name do. What the reference's name, whole, Few and Light do. What isColumn, isFilled, isFilledWith, mayKey and the reference's whole do. -/
import Derived.Laws.IdiomStrings
import Derived.Deep.RegionLaw
import Derived.Deep.DeepCutAuto
import Derived.Deep.QuietTactic
import Derived.BigQuiet
import Derived.WalkKit
import Derived.WalkSpells
import Derived.Lib.Hide
import Derived.WalkLawsBesides
import Derived.Test.YtfeolclpgilfdaaPk11
import Derived.Test.YtfeolclpgilfdaaPk06
import Derived.Test.YtfeolclpgilfdaaProg
import Derived.Test.YtfeolclpgilfdaaPk01
import Derived.Test.YtfeolclpgilfdaaPk02
namespace Go.Proofs.Ytfeolclpgilfdaa
set_option maxRecDepth 20000
open Go.RowKit
namespace Vc
open Va Nc
/-- What []byte(s) leaves. -/
def bcap (w : World) (s : ByteArray) : Nat := grownCap w s.size 0 5
def bobj (w : World) (s : ByteArray) : Obj := .cells (bytesRow s (bcap w s)) 5 ((bytesRow s (bcap w s)).size, (bytesRow s (bcap w s)).size + 1)
theorem run_bytes (w : World) (s : ByteArray) : (convert 9 97 (.string s)).run Try.prog w = .ok (.slice (some ⟨w.heap.size, 0, none⟩) s.size (bcap w s)) (w.drew.alloc (bobj w s)) :=
  run_bytes_of_string w 9 97 5 s Try.underlying9 Try.underlying97 Try.underlying5
theorem bytes_sl (w : World) (s : ByteArray) (hs : s.size ≤ 1000000) : Wd.Sl (w.drew.alloc (bobj w s)) .u8 (some ⟨w.heap.size, 0, none⟩) s.size (bcap w s) (byts s) := by
  refine ⟨(byts_len s).symm, grownCap_ge w s.size 0 _, grownCap_le_maxLen w s.size 0 _ (by unfold maxLen; omega), by simp, ?_⟩
  refine (Wd.Rd.mk (b := w.heap.size) (o := 0) (by simp) fun j hj => ?_)
  rw [byts_len] at hj
  have e := heap_alloc_new w.drew (bobj w s)
  have h := cell_of_row (w.drew.alloc (bobj w s)) w.heap.size j (bytesRow s (bcap w s)) 5 _ e
  rw [Nat.zero_add, h, bytesRow_at s _ j (by simpa using hj)]
  unfold byts
  have hj' : j < s.data.size := hj
  simp [List.getD, List.getElem?_map]
  rw [Array.getElem?_eq_getElem hj']
  rfl
/-- What the reference's Put answers. -/
def putR (k i : Int) (s : ByteArray) (b : Bool) : List Int := if mayB k i s b then Va.put ⟨k, i, s, b⟩ else []

/-- A slice of numbers in memory that is new since w, and an error's number. -/
def Out2N (w : World) (ys : List Int) (er : Int) (e : Ending) (w' : World) : Prop :=
  ∃ A n c, e = .returned (.tuple #[.slice A n c, .int .i64 er]) ∧ Wd.Sl w' .u8 A n c ys ∧ Below w.heap.size w w' ∧ ∀ a, A = some a → w.heap.size ≤ a.block
theorem own_new {w : World} {B B' : Nat} {e : TypeId} {size n m c : Nat} {A : Option Addr} {xs : List Value} (h : w.ownsRow B e size (.slice A m c) n xs) (hB : B' ≤ B) : ∀ a, A = some a → B' ≤ a.block := by
  rcases h.2 with ⟨h0, _⟩ | ⟨g, cap, cur, h1, h2, _⟩
  · intro a ha
    simp only [Value.slice.injEq] at h0
    rw [h0.1] at ha
    cases ha
  · intro a ha
    simp only [Value.slice.injEq] at h1
    rw [h1.1] at ha
    cases ha
    exact Nat.le_trans hB h2
end Vc
end Go.Proofs.Ytfeolclpgilfdaa
namespace Go.Proofs.Ytfeolclpgilfdaa
set_option maxRecDepth 20000
open Go.RowKit
namespace Sx
open Sc (Col Sch nameOk sgn tr tr_yes tr_no)
open Va (byts byts_len)
/-- A sign of a name, as the machine tells it. -/
def sgB (x : Int) : Bool := (decide (97 ≤ x) && decide (x ≤ 122)) || (decide (48 ≤ x) && decide (x ≤ 57)) || decide (x = 95)
theorem sgB_iff (x : Int) : sgB x = true ↔ sgn x := by
  unfold sgB sgn
  simp [or_assoc]
theorem maySign_any (x : Int) (w : World) :
    Calls Try.prog 64 #[.int .u8 x] w fun e w' => e = .returned (.bool (sgB x)) ∧ w' = w := by
  obtain ⟨r, hr⟩ : ∃ r, r = sgB x := ⟨_, rfl⟩
  rw [← hr]
  have Hr := Lib.hid hr
  clear hr
  go_enter Try.func64, Try.ntmps64
  go_wp2_with fail
  all_goals (go_ret; refine ⟨?_, rfl⟩; rw [Hr.out]; unfold sgB; refine congrArg Ending.returned (congrArg Value.bool (?_ : _ = _)); rw [Bool.eq_iff_iff]; simp; omega)
theorem mayKind_any (k : Int) (w : World) :
    Calls Try.prog 57 #[.int .i64 k] w fun e w' => e = .returned (.bool (decide (1 ≤ k ∧ k ≤ 3))) ∧ w' = w := by
  obtain ⟨r, hr⟩ : ∃ r, r = decide (1 ≤ k ∧ k ≤ 3) := ⟨_, rfl⟩
  rw [← hr]
  have Hr := Lib.hid hr
  clear hr
  by_cases h1 : k = 1
  · subst h1
    go_enter Try.func57, Try.ntmps57
    go_wp2_with fail
    go_ret
    exact ⟨by rw [Hr.out]; rfl, rfl⟩
  by_cases h2 : k = 2
  · subst h2
    go_enter Try.func57, Try.ntmps57
    go_wp2_with fail
    go_ret
    exact ⟨by rw [Hr.out]; rfl, rfl⟩
  by_cases h3 : k = 3
  · subst h3
    go_enter Try.func57, Try.ntmps57
    go_wp2_with fail
    go_ret
    exact ⟨by rw [Hr.out]; rfl, rfl⟩
  have q1 : (k == 1) = false := by simpa using h1
  have q2 : (k == 2) = false := by simpa using h2
  have q3 : (k == 3) = false := by simpa using h3
  have hf : r = false := by rw [Hr.out]; exact decide_eq_false (by omega)
  subst hf
  clear Hr h1 h2 h3
  go_enter Try.func57, Try.ntmps57
  go_wp2_with fail
  go_ret
  exact ⟨rfl, rfl⟩
theorem sgn_at {s : ByteArray} {k : Nat} (hk : k < s.size) (h : ∀ x ∈ byts s, sgn x) : sgn ((byts s).getD k 0) := h _ (by
  have : k < (byts s).length := by rw [byts_len]; exact hk
  simp [List.getD, List.getElem?_eq_getElem this])
theorem nameOk_of {s : ByteArray} (h1 : 1 ≤ s.size) (h2 : s.size ≤ 16) (h : ∀ j, j < s.size → sgn ((byts s).getD j 0)) : nameOk s := by
  refine ⟨h1, h2, fun x hx => ?_⟩
  obtain ⟨i, hi, e⟩ := List.getElem_of_mem hx
  have := h i (by rw [byts_len] at hi; exact hi)
  rw [List.getD, List.getElem?_eq_getElem hi] at this
  simp only [Option.getD_some] at this
  rw [e] at this
  exact this
set_option maxHeartbeats 1000000 in
theorem mayName_any (s : ByteArray) (w : World) :
    Calls Try.prog 55 #[.string s] w fun e w' => e = .returned (.bool (tr (nameOk s))) ∧ Below w.heap.size w w' := by
  by_cases h0 : s.size = 0
  · rw [tr_no (fun h => by have := h.1; omega)]
    have q0 : ((s.size : Int) == 0) = true := by simpa using h0
    clear h0
    go_enter Try.func55, Try.ntmps55
    go_wp2_with fail
    go_ret
    exact ⟨rfl, Below.refl _ _⟩
  have q0 : ((s.size : Int) == 0) = false := by simpa using h0
  have p0 : 0 < s.size := by omega
  by_cases h1 : 16 < s.size
  · rw [tr_no (fun h => by have := h.2.1; omega)]
    have q1 : (16 : Int) < (s.size : Int) := by omega
    clear h0 h1
    go_enter Try.func55, Try.ntmps55
    go_wp2_with fail
    go_ret
    exact ⟨rfl, Below.refl _ _⟩
  have q1 : ¬ (16 : Int) < (s.size : Int) := by omega
  have hcv := fun w => Vc.run_bytes w s
  have hsl := Vc.bytes_sl w s (by omega)
  have hb0 : Below w.heap.size w (w.drew.alloc (Vc.bobj w s)) := ((Below.refl w.heap.size w).drew).alloc (Nat.le_refl _) _
  rw [show w.drew.alloc (Vc.bobj w s) = (w.alloc (Vc.bobj w s)).drew from rfl] at hsl hb0
  have Hs := Lib.hid (show 1 ≤ s.size ∧ s.size ≤ 16 by omega)
  obtain ⟨r, hr⟩ : ∃ r, r = tr (nameOk s) := ⟨_, rfl⟩
  rw [← hr]
  have Hr := Lib.hid hr
  clear hr h0 h1
  go_enter Try.func55, Try.ntmps55
  go_wp2
  generalize (w.alloc (Vc.bobj w s)).drew = wa at *
  have hcap := hsl.cap
  have HS := Lib.hid hsl
  clear hsl
  go_loopw [4, 16] (fun _ i wr => ∃ k : Nat, i = .int .i64 k ∧ k ≤ s.size ∧ Hid (∀ j, j < k → sgn ((byts s).getD j 0)) ∧ wr = wa) (fun _ i _ => s.size - (intOf i).toNat)
  case atStart => exact ⟨0, rfl, Nat.zero_le _, Lib.hid (fun j hj => by omega), rfl⟩
  case round =>
    obtain ⟨k, rfl, hk, hf, rfl⟩ := hrel
    by_cases hlt : k < s.size
    · obtain ⟨b, o, he, hbB, hcell⟩ := HS.out.rd k (by rw [byts_len]; exact hlt)
      cases he
      obtain ⟨x, hx⟩ : ∃ x, x = (byts s).getD k 0 := ⟨_, rfl⟩
      rw [← hx, Nat.zero_add] at hcell
      have Hx := Lib.hid hx
      clear hx
      go_wp2_with fail
      refine (maySign_any x wr).mono ?_
      rintro e w1 ⟨rfl, rfl⟩
      cases hg : sgB x
      · have Hg := Lib.hid hg
        clear hg
        go_wp2_with fail
        go_ret
        refine ⟨?_, hb0⟩
        rw [Hr.out, tr_no (fun h => by
          have := sgn_at hlt h.2.2
          rw [← Hx.out, ← sgB_iff, Hg.out] at this
          cases this)]
        rfl
      · have Hg := Lib.hid hg
        clear hg
        go_wp2_with fail
        go_roundw
        case rel =>
          refine ⟨k + 1, by go_num, by omega, Lib.hid fun j hj => ?_, by first | rfl | trivial⟩
          by_cases hjk : j = k
          · rw [hjk, ← Hx.out]; exact (sgB_iff x).1 Hg.out
          · exact hf.out j (by omega)
        case measure => simp [intOf]; omega
    · have hkI : ¬ (k : Int) < s.size := by omega
      have e : r = true := by
        rw [Hr.out]
        exact tr_yes (nameOk_of Hs.out.1 Hs.out.2 fun j hj => hf.out j (by omega))
      have He := Lib.hid e
      clear e hf
      go_wp2_with fail
      go_ret
      exact ⟨by rw [He.out]; rfl, hb0⟩
end Sx
end Go.Proofs.Ytfeolclpgilfdaa
namespace Go.Proofs.Ytfeolclpgilfdaa
set_option maxRecDepth 20000
open Go.RowKit
namespace Sx
open Sc (Col Sch nameOk sgn tr tr_yes tr_no)
open Va (byts byts_len Vl)
theorem byts_at {s : ByteArray} {k : Nat} (h : k < s.size) : (byts s).getD k 0 = (s[k].toNat : Int) := by
  unfold byts
  have h' : k < s.data.size := h
  simp [List.getD, List.getElem?_map]
  rw [Array.getElem?_eq_getElem h']
  rfl
set_option maxHeartbeats 1000000 in
theorem refName_any (s : ByteArray) (w : World) :
    Calls Try.prog 48 #[.string s] w fun e w' => e = .returned (.bool (tr (nameOk s))) ∧ Below w.heap.size w w' := by
  by_cases h0 : s.size = 0
  · rw [tr_no (fun h => by have := h.1; omega)]
    have q0 : (s.size : Int) < 1 := by omega
    clear h0
    go_enter Try.func48, Try.ntmps48
    go_wp2_with fail
    go_ret
    exact ⟨rfl, Below.refl _ _⟩
  have q0 : ¬ (s.size : Int) < 1 := by omega
  by_cases h1 : 16 < s.size
  · rw [tr_no (fun h => by have := h.2.1; omega)]
    have q1 : (16 : Int) < (s.size : Int) := by omega
    clear h0 h1
    go_enter Try.func48, Try.ntmps48
    go_wp2_with fail
    go_ret
    exact ⟨rfl, Below.refl _ _⟩
  have q1 : ¬ (16 : Int) < (s.size : Int) := by omega
  have Hs := Lib.hid (show 1 ≤ s.size ∧ s.size ≤ 16 by omega)
  obtain ⟨r, hr⟩ : ∃ r, r = tr (nameOk s) := ⟨_, rfl⟩
  rw [← hr]
  have Hr := Lib.hid hr
  clear hr h0 h1
  go_enter Try.func48, Try.ntmps48
  go_wp2
  go_loopw [3, 4] (fun i _ wr => ∃ k : Nat, i = .int .i64 k ∧ k ≤ s.size ∧ Hid (∀ j, j < k → sgn ((byts s).getD j 0)) ∧ Below w.heap.size w wr) (fun i _ _ => s.size - (intOf i).toNat)
  case atStart => exact ⟨0, rfl, Nat.zero_le _, Lib.hid (fun j hj => by omega), Below.refl _ _⟩
  case round =>
    obtain ⟨k, rfl, hk, hf, hB⟩ := hrel
    by_cases hlt : k < s.size
    · have hI1 : (k : Int) < (s.size : Int) := by omega
      have Hx := Lib.hid (byts_at hlt)
      go_wp2_with fail
      all_goals first
        | (go_ret
           refine ⟨?_, hB⟩
           rw [Hr.out, tr_no (fun h => by
             have := sgn_at hlt h.2.2
             rw [Hx.out] at this
             unfold sgn at this
             simp_all <;> omega)]
           rfl)
        | (go_roundw
           case rel =>
             refine ⟨k + 1, by go_num, by omega, Lib.hid fun j hj => ?_, hB⟩
             by_cases hjk : j = k
             · rw [hjk, Hx.out]; unfold sgn; simp_all <;> omega
             · exact hf.out j (by omega)
           case measure => simp [intOf]; omega)
    · have hkI : ¬ (k : Int) < s.size := by omega
      have e : r = true := by
        rw [Hr.out]
        exact tr_yes (nameOk_of Hs.out.1 Hs.out.2 fun j hj => hf.out j (by omega))
      have He := Lib.hid e
      clear e hf
      go_wp2_with fail
      go_ret
      exact ⟨by rw [He.out]; rfl, hB⟩
end Sx
end Go.Proofs.Ytfeolclpgilfdaa
namespace Go.Proofs.Ytfeolclpgilfdaa
set_option maxRecDepth 20000
open Go.RowKit
namespace Sx
open Sc (Col Sch nameOk sgn tr tr_yes tr_no whole whole1 MayK whole_get whole1_get)
/-- A schema's value. -/
theorem isColumn_any (A : Option Addr) (n c : Nat) (s : Sch) (i : Int) (w : World) (hS : Wd.Cs w A n c s.cols) :
    Calls Try.prog 47 #[.agg #[.slice A n c, .int .i64 s.key, .int .i64 s.cmp, .int .i64 s.del, .int .i64 s.sort], .int .i64 i] w fun e w' => e = .returned (.bool (decide (0 ≤ i ∧ i < s.cols.length))) ∧ Below w.heap.size w w' := by
  rw [← hS.len]
  clear hS
  by_cases h0 : 0 ≤ i
  · by_cases h1 : i < n
    · rw [decide_eq_true ⟨h0, h1⟩]
      go_enter Try.func47, Try.ntmps47
      go_wp2_with fail
      go_ret
      exact ⟨rfl, (Below.refl _ _).alloc (Nat.le_refl _) _⟩
    · rw [decide_eq_false (fun h => h1 h.2)]
      go_enter Try.func47, Try.ntmps47
      go_wp2_with fail
      go_ret
      exact ⟨rfl, (Below.refl _ _).alloc (Nat.le_refl _) _⟩
  · rw [decide_eq_false (fun h => h0 h.1)]
    go_enter Try.func47, Try.ntmps47
    go_wp2_with fail
    go_ret
    exact ⟨rfl, (Below.refl _ _).alloc (Nat.le_refl _) _⟩
set_option maxHeartbeats 1000000 in
theorem isFilled_any (A : Option Addr) (n c : Nat) (s : Sch) (i : Int) (w : World) (hS : Wd.Cs w A n c s.cols) :
    Calls Try.prog 58 #[.agg #[.slice A n c, .int .i64 s.key, .int .i64 s.cmp, .int .i64 s.del, .int .i64 s.sort], .int .i64 i] w fun e w' => e = .returned (.bool (tr (whole s i))) ∧ Below w.heap.size w w' := by
  have hb0 := (Below.refl w.heap.size w).alloc (Nat.le_refl _) (.cells #[.slice A n c, .int .i64 s.key, .int .i64 s.cmp, .int .i64 s.del, .int .i64 s.sort] 24)
  have s0 : Sb (w.alloc (.cells #[.slice A n c, .int .i64 s.key, .int .i64 s.cmp, .int .i64 s.del, .int .i64 s.sort] 24)) w.heap.size A n c s.key s.cmp s.del s.sort := Wd.Bx.new w _ _
  have Cc := Lib.hid (isColumn_any A n c s i _ (hS.below hb0))
  have Hl := Lib.hid hS.len
  have HS := Lib.hid (hS.below hb0)
  clear hS
  by_cases h : 0 ≤ i ∧ i < s.cols.length
  · rw [decide_eq_true h] at Cc
    obtain ⟨h0, h1⟩ := h
    have h1' : i < (n : Int) := by rw [Hl.out]; exact h1
    obtain ⟨k, rfl⟩ : ∃ k : Nat, i = k := ⟨i.toNat, by omega⟩
    obtain ⟨b, o, hA, hbB, c0, c1, c2, _⟩ := HS.out.cells (j := k) (by omega) rfl
    subst hA
    obtain ⟨x, hx⟩ : ∃ x, x = s.cols.getD k default := ⟨_, rfl⟩
    rw [← hx] at c0 c1 c2
    have ht : tr (whole s k) = !x.nul := by
      cases q : x.nul
      · exact tr_yes ((whole_get s k).2 ⟨by omega, h1, by rw [Int.toNat_natCast, ← hx]; exact q⟩)
      · exact tr_no fun h => by
          have := ((whole_get s k).1 h).2.2
          rw [Int.toNat_natCast, ← hx, q] at this
          cases this
    rw [ht]
    clear ht hx h0 h1
    generalize x.nul = q at *
    go_enter Try.func58, Try.ntmps58
    go_wp2_with fail
    refine Cc.out.mono ?_
    rintro e w1 ⟨rfl, hB1⟩
    generalize w.alloc (.cells #[.slice (some ⟨b, o, none⟩) n c, .int .i64 s.key, .int .i64 s.cmp, .int .i64 s.del, .int .i64 s.sort] 24) = wa at *
    obtain ⟨q0, -, -, -, -⟩ := five (s0.below (Wd.Bx.lt s0) hB1)
    have c2' := (hB1.cell (p := ⟨b, o + k * 3 + 2, none⟩) hbB).trans c2
    clear c0 c1 c2 s0
    go_wp2_with fail
    go_ret
    exact ⟨rfl, hb0.trans (hB1.mono hb0.size)⟩
  · rw [decide_eq_false h] at Cc
    have ht : tr (whole s i) = false := tr_no fun q => h ⟨((whole_get s i).1 q).1, ((whole_get s i).1 q).2.1⟩
    rw [ht]
    clear ht h
    go_enter Try.func58, Try.ntmps58
    go_wp2_with fail
    refine Cc.out.mono ?_
    rintro e w1 ⟨rfl, hB1⟩
    go_wp2_with fail
    go_ret
    exact ⟨rfl, hb0.trans (hB1.mono hb0.size)⟩
set_option maxHeartbeats 1000000 in
theorem isFilledWith_any (A : Option Addr) (n c : Nat) (s : Sch) (i kd : Int) (w : World) (hS : Wd.Cs w A n c s.cols) :
    Calls Try.prog 59 #[.agg #[.slice A n c, .int .i64 s.key, .int .i64 s.cmp, .int .i64 s.del, .int .i64 s.sort], .int .i64 i, .int .i64 kd] w fun e w' => e = .returned (.bool (tr (whole1 s i kd))) ∧ Below w.heap.size w w' := by
  have hb0 := (Below.refl w.heap.size w).alloc (Nat.le_refl _) (.cells #[.slice A n c, .int .i64 s.key, .int .i64 s.cmp, .int .i64 s.del, .int .i64 s.sort] 24)
  have s0 : Sb (w.alloc (.cells #[.slice A n c, .int .i64 s.key, .int .i64 s.cmp, .int .i64 s.del, .int .i64 s.sort] 24)) w.heap.size A n c s.key s.cmp s.del s.sort := Wd.Bx.new w _ _
  have Cc := Lib.hid (isFilled_any A n c s i _ (hS.below hb0))
  have Hl := Lib.hid hS.len
  have HS := Lib.hid (hS.below hb0)
  clear hS
  by_cases h : whole s i
  · rw [tr_yes h] at Cc
    obtain ⟨h0, h1, -⟩ := (whole_get s i).1 h
    have Hw := Lib.hid h
    clear h
    have h1' : i < (n : Int) := by rw [Hl.out]; exact h1
    obtain ⟨k, rfl⟩ : ∃ k : Nat, i = k := ⟨i.toNat, by omega⟩
    obtain ⟨b, o, hA, hbB, c0, c1, c2, _⟩ := HS.out.cells (j := k) (by omega) rfl
    subst hA
    obtain ⟨x, hx⟩ : ∃ x, x = s.cols.getD k default := ⟨_, rfl⟩
    rw [← hx] at c0 c1 c2
    have ht : tr (whole1 s k kd) = (x.kind == kd) := by
      by_cases q : x.kind = kd
      · rw [tr_yes ((whole1_get s k kd).2 ⟨Hw.out, by rw [Int.toNat_natCast, ← hx]; exact q⟩)]
        simp [q]
      · rw [tr_no fun h => q (by have := ((whole1_get s k kd).1 h).2; rw [Int.toNat_natCast, ← hx] at this; exact this)]
        simp [q]
    rw [ht]
    clear ht hx h0 h1
    generalize x.kind = q at *
    go_enter Try.func59, Try.ntmps59
    go_wp2_with fail
    refine Cc.out.mono ?_
    rintro e w1 ⟨rfl, hB1⟩
    generalize w.alloc (.cells #[.slice (some ⟨b, o, none⟩) n c, .int .i64 s.key, .int .i64 s.cmp, .int .i64 s.del, .int .i64 s.sort] 24) = wa at *
    obtain ⟨q0, -, -, -, -⟩ := five (s0.below (Wd.Bx.lt s0) hB1)
    have c1' := (hB1.cell (p := ⟨b, o + k * 3 + 1, none⟩) hbB).trans c1
    clear c0 c1 c2 s0
    go_wp2_with fail
    go_ret
    exact ⟨rfl, hb0.trans (hB1.mono hb0.size)⟩
  · rw [tr_no h] at Cc
    have ht : tr (whole1 s i kd) = false := tr_no fun q => h ((whole1_get s i kd).1 q).1
    rw [ht]
    clear ht h
    go_enter Try.func59, Try.ntmps59
    go_wp2_with fail
    refine Cc.out.mono ?_
    rintro e w1 ⟨rfl, hB1⟩
    go_wp2_with fail
    go_ret
    exact ⟨rfl, hb0.trans (hB1.mono hb0.size)⟩
/-- Key, Cmp and Del, as the machine tells it. -/
theorem mayK_b (s : Sch) : tr (MayK s) = if s.key = -1 then (s.cmp == -1 && s.del == -1) else (tr (whole s s.key) && (tr (whole1 s s.cmp 1) && (s.del == -1 || tr (whole1 s s.del 3)))) := by
  rw [Bool.eq_iff_iff, Sc.tr_iff]
  unfold MayK
  split
  · rename_i h; simp [h]
  · rename_i h; simp [h, Sc.tr_iff]
set_option maxHeartbeats 2000000 in
theorem mayKey_any (A : Option Addr) (n c : Nat) (s : Sch) (w : World) (hS : Wd.Cs w A n c s.cols) :
    Calls Try.prog 46 #[.agg #[.slice A n c, .int .i64 s.key, .int .i64 s.cmp, .int .i64 s.del, .int .i64 s.sort]] w fun e w' => e = .returned (.bool (tr (MayK s))) ∧ Below w.heap.size w w' := by
  rw [mayK_b]
  have hb0 := (Below.refl w.heap.size w).alloc (Nat.le_refl _) (.cells #[.slice A n c, .int .i64 s.key, .int .i64 s.cmp, .int .i64 s.del, .int .i64 s.sort] 24)
  have s0 : Sb (w.alloc (.cells #[.slice A n c, .int .i64 s.key, .int .i64 s.cmp, .int .i64 s.del, .int .i64 s.sort] 24)) w.heap.size A n c s.key s.cmp s.del s.sort := Wd.Bx.new w _ _
  have Cf := Lib.hid fun w' hb => isFilled_any A n c s s.key w' (hS.below (w' := w') hb)
  have Cc := Lib.hid fun w' hb => isFilledWith_any A n c s s.cmp 1 w' (hS.below (w' := w') hb)
  have Cd := Lib.hid fun w' hb => isFilledWith_any A n c s s.del 3 w' (hS.below (w' := w') hb)
  clear hS
  generalize s.key = key at *
  generalize s.cmp = cmp at *
  generalize s.del = del at *
  generalize s.sort = sort at *
  by_cases hk : key = -1
  · subst hk
    rw [if_pos rfl]
    by_cases hp : cmp = -1
    · subst hp
      go_enter Try.func46, Try.ntmps46
      go_wp2_with fail
      go_ret
      exact ⟨by simp, hb0⟩
    · have qp : (cmp == -1) = false := by simpa using hp
      rw [qp]
      clear hp
      go_enter Try.func46, Try.ntmps46
      go_wp2_with fail
      go_ret
      exact ⟨by simp, hb0⟩
  · rw [if_neg hk]
    have qk : (key == -1) = false := by simpa using hk
    have hz := hb0.size
    generalize tr (whole s key) = r1 at *
    generalize tr (whole1 s cmp 1) = r2 at *
    generalize tr (whole1 s del 3) = r3 at *
    clear hk
    have s0' := Lib.hid s0
    clear s0
    go_enter Try.func46, Try.ntmps46
    go_wp2_with fail
    refine (Cf.out _ hb0).mono ?_
    rintro e w1 ⟨rfl, hB1⟩
    generalize w.alloc (.cells #[.slice A n c, .int .i64 key, .int .i64 cmp, .int .i64 del, .int .i64 sort] 24) = wa at *
    have s1 := s0'.out.below (Wd.Bx.lt s0'.out) hB1
    have hb1 := hb0.trans (hB1.mono hb0.size)
    obtain ⟨q0, q1, q2, q3, q4⟩ := five s1
    cases r1
    · go_wp2_with fail
      go_ret
      exact ⟨rfl, hb1⟩
    · go_wp2_with fail
      refine (Cc.out _ hb1).mono ?_
      rintro e w2 ⟨rfl, hB2⟩
      have s2 := s1.below (Wd.Bx.lt s1) hB2
      have hb2 := hb1.trans (hB2.mono hb1.size)
      clear q0 q1 q2 q3 q4 s0'
      obtain ⟨q0, q1, q2, q3, q4⟩ := five s2
      cases r2
      · go_wp2_with fail
        go_ret
        exact ⟨rfl, hb2⟩
      · by_cases hd : del = -1
        · subst hd
          go_wp2_with fail
          go_ret
          exact ⟨rfl, hb2⟩
        · have qd : (del == -1) = false := by simpa using hd
          clear hd
          go_wp2_with fail
          refine (Cd.out _ hb2).mono ?_
          rintro e w3 ⟨rfl, hB3⟩
          go_wp2_with fail
          go_ret
          exact ⟨by simp [qd], hb2.trans (hB3.mono hb2.size)⟩
end Sx
end Go.Proofs.Ytfeolclpgilfdaa
