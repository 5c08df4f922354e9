/- A table as an object of a law; the chapter's example. Rows that come one behind the other; which one wins. No memory. From an argument as the statement reads it to the words of this seat: a slice of integers. Words on memory: a call of a table (a row, a place, an offset; or an id and an order), a slice of such; from an argument as the statement reads it to these words. Their type, at this program. -/
import Derived.ProofKit
import Derived.OpenShut
import Derived.Deep.Slices
import Derived.Lib.SmallJoins
import Derived.Test.YtpappcmgnnmbeaaDoorPk23
import Derived.Test.YtpappcmgnnmbeaaDoorPk24
import Derived.Test.YtpappcmgnnmbeaaDoorPk26
import Derived.Test.YtpappcmgnnmbeaaDoorPk09
import Derived.Test.YtpappcmgnnmbeaaDoorPk01
import Derived.Test.YtpappcmgnnmbeaaDoorPk02
import Derived.Test.YtpappcmgnnmbeaaDoorPk10
namespace Go.Proofs.YtpappcmgnnmbeaaDoor
set_option maxRecDepth 20000
open Go.RowKit Go.Maps
namespace Up
open Va (Vl)
open Sc (Sch FitS MayS tr tr_yes tr_no)
/-- A table in memory that is new since wo. -/
structure Ob (wo w : World) (t : Nat) (s : Sch) (L : List Rw) (N : Nat) (F : Nat → Prop) : Prop where
  tb : Tbl w t s L N F
  bel : Below wo.heap.size wo w
  new : ∀ x, F x → wo.heap.size ≤ x
section
variable {wo w w' : World} {t : Nat} {s : Sch} {L : List Rw} {N : Nat} {F : Nat → Prop}
theorem Ob.below (h : Ob wo w t s L N F) (hb : Below w.heap.size w w') : Ob wo w' t s L N F := ⟨h.tb.below hb, h.bel.trans (hb.mono h.bel.size), h.new⟩
theorem Ob.drew (h : Ob wo w t s L N F) : Ob wo w.drew t s L N F := h.below (Below.refl _ _).drew
theorem gr_new {F' : Nat → Prop} (hF : ∀ x, F x → wo.heap.size ≤ x) (hb : wo.heap.size ≤ w.heap.size) (hg : ∀ x, F' x → Wd.Gr F w w' x) : ∀ x, F' x → wo.heap.size ≤ x := fun x hx => by
  rcases hg x hx with q | q
  · exact hF x q
  · omega
theorem ob_new {A : Option Addr} {n c : Nat} (hS : Wd.Cs w A n c s.cols) (hn : n ≤ 1000000) (hM : MayS s) (hb : Below wo.heap.size wo w) :
    Calls Tryd.prog 13 #[.agg #[.slice A n c, .int .i64 s.key, .int .i64 s.cmp, .int .i64 s.del, .int .i64 s.sort]] w fun e w' => ∃ t F, e = .returned (.tuple #[.pointer (some ⟨t, 0, none⟩), .int .i64 0]) ∧ Ob wo w' t s [] 0 F ∧ Below w.heap.size w w' ∧ ∀ x, F x → w.heap.size ≤ x := by
  refine (new_any hS hn).mono ?_
  rintro e w' ⟨hb2, ⟨h1, _⟩ | ⟨_, t, F, h1, h2, h3⟩⟩
  · exact absurd hM h1
  · exact ⟨t, F, h1, ⟨h2, hb.trans (hb2.mono hb.size), fun x hx => Nat.le_trans hb.size (h3 x hx)⟩, hb2, h3⟩
theorem ob_add (h : Ob wo w t s L N F) {R : Option Addr} {m d : Nat} {vs : List Vl} (hV : Wd.Vs w R m d vs) (seg doc off : Int) (hN : N + 8 < maxLen) :
    Calls Tryd.prog 25 #[.pointer (some ⟨t, 0, none⟩), .slice R m d, .agg #[.int .i64 seg, .int .i64 doc], .int .i64 off] w fun e w' => e = .returned (.int .i64 (addE s L vs seg doc off)) ∧ Wd.Mv F w w' ∧
      ∃ F', Ob wo w' t s (addL s L vs seg doc off) (N + 4) F' ∧ ∀ x, F' x → Wd.Gr F w w' x := by
  refine (add_any h.tb hV seg doc off hN).mono ?_
  rintro e w' ⟨h1, mv, F', h2, h3⟩
  exact ⟨h1, mv, F', ⟨h2, h.bel.trans (mv.below h.new h.bel.size), gr_new h.new h.bel.size h3⟩, h3⟩
theorem ob_valid (h : Ob wo w t s L N F) (hN : N ≤ 100000) {g : Int} (hg : (Lit.int .i64 g).wf = true) : Calls Tryd.prog 21 #[.pointer (some ⟨t, 0, none⟩), .int .i64 g] w (Bi.Gv Bw.St w (validL (kdS s) L g)) := valid_any h.tb hN hg
theorem ob_keys (h : Ob wo w t s L N F) : Calls Tryd.prog 23 #[.pointer (some ⟨t, 0, none⟩)] w fun e w' => e = .returned (.int .i64 (keysN (kdS s) L : Int)) ∧ w' = w := by
  obtain ⟨A, n, c, bd, bw, bs, nd, nw, fd, fw, hl, _⟩ := h.tb
  exact keys_lay hl
theorem ob_find (h : Ob wo w t s L N F) {v : Vl} (hv : kV.ok v) : Calls Tryd.prog 17 #[.pointer (some ⟨t, 0, none⟩), .agg #[.int .i64 v.kind, .int .i64 v.i, .string v.s, .bool v.b]] w fun e w' => e = .returned (.tuple #[wv (best (win (kdS s) L) v), .bool (win (kdS s) L v).isSome]) ∧ Below w.heap.size w w' := by
  obtain ⟨A, n, c, bd, bw, bs, nd, nw, fd, fw, hl, hO, _⟩ := h.tb
  exact find_lay hl (hO.segOk _) hv
end
/-- Add of a row of the law's own schema. -/
theorem add_row {L : List Rw} {k n : Int} {d : Bool} {seg doc off : Int} (hk : (Lit.int .i64 k).wf = true) (hn : (Lit.int .i64 n).wf = true) (hP : PlaceOk seg doc off) (h1 : ¬ Here L seg doc) (h2 : ¬ TieW (win true L) (vI k) ⟨vI k, n, d, seg, doc, off⟩) :
    addE kS L (rowV k n d) seg doc off = 0 ∧ addL kS L (rowV k n d) seg doc off = L ++ [⟨vI k, n, d, seg, doc, off⟩] := by
  have e : addE kS L (rowV k n d) seg doc off = 0 := by
    unfold addE
    rw [tr_yes ⟨fit_row d hk hn, hP⟩, if_pos rfl, tr_no, if_neg (by decide)]
    rintro (q | q)
    · exact h1 q
    · rw [rw_row] at q
      exact h2 q
  refine ⟨e, ?_⟩
  unfold addL
  rw [if_pos e, rw_row]
def e1 : Rw := ⟨vI 1, 5, false, 0, 0, 0⟩
def e2 : Rw := ⟨vI 1, 3, false, 0, 1, 1⟩
def e3 : Rw := ⟨vI 1, 5, false, 0, 2, 2⟩
theorem w1 : win true [e1] (vI 1) = some e1 := by decide +kernel
theorem w2 : win true [e1, e2] (vI 1) = some e1 := by decide +kernel
theorem a1 : addE kS [] (rowV 1 5 false) 0 0 0 = 0 ∧ addL kS [] (rowV 1 5 false) 0 0 0 = [e1] :=
  add_row (by decide) (by decide) (by decide) (by rintro ⟨x, hx, _⟩; cases hx) (by rintro ⟨b, hb, _⟩; rw [win_nil] at hb; cases hb)
theorem a2 : addE kS [e1] (rowV 1 3 false) 0 1 1 = 0 ∧ addL kS [e1] (rowV 1 3 false) 0 1 1 = [e1, e2] :=
  add_row (by decide) (by decide) (by decide) (by rintro ⟨x, hx, _, h⟩; simp only [List.mem_singleton] at hx; subst hx; revert h; decide) (by rintro ⟨b, hb, h, _⟩; rw [w1] at hb; cases hb; revert h; decide)
theorem a3 : addE kS [e1, e2] (rowV 1 5 false) 0 2 2 = 0 ∧ addL kS [e1, e2] (rowV 1 5 false) 0 2 2 = [e1, e2, e3] :=
  add_row (by decide) (by decide) (by decide) (by
    rintro ⟨x, hx, _, h⟩
    simp only [List.mem_cons, List.not_mem_nil, or_false] at hx
    rcases hx with rfl | rfl <;> revert h <;> decide) (by rintro ⟨b, hb, _, h⟩; rw [w2] at hb; cases hb; revert h; decide)
theorem v2 : validL true [e1, e2] 0 = [0] := by decide +kernel
theorem v3 : validL true [e1, e2, e3] 0 = [2] := by decide +kernel
theorem k3 : keysN true [e1, e2, e3] = 1 := by decide +kernel
set_option maxHeartbeats 4000000 in
theorem awake_any (w : World) (hT : Bi.Tab w) : Calls Tryd.prog 10 #[] w fun e w' => e = .returned (.bool true) ∧ Below w.heap.size w w' := by
  have hT := Lib.hid hT
  have Ck := Lib.hid (Keyed_any w)
  have R5 := Lib.hid fun wx => row_any (k := 1) (n := 5) false (by decide) (by decide) wx
  have R3 := Lib.hid fun wx => row_any (k := 1) (n := 3) false (by decide) (by decide) wx
  go_enter Tryd.func10, Tryd.ntmps10
  go_wp2_with fail
  refine (Ck.out).mono ?_
  rintro e x1 ⟨A, rfl, hS, hb1⟩
  have Cn := Lib.hid (ob_new (wo := w) (s := kS) hS (by omega) k_may hb1)
  clear hS hb1
  go_wp2_with fail
  refine (Cn.out).mono ?_
  rintro e x2 ⟨t, F0, rfl, o1, -, -⟩
  go_wp2_with fail
  refine (R5.out _).mono ?_
  rintro e x3 ⟨q1, rfl, hv1, hb1⟩
  have C1 := ob_add (o1.below hb1) hv1 0 0 0 (by unfold maxLen; omega)
  rw [a1.1, a1.2] at C1
  have C1 := Lib.hid C1
  clear o1 hv1 hb1
  go_wp2_with fail
  refine (C1.out).mono ?_
  rintro e x4 ⟨rfl, -, F1, o2, -⟩
  clear C1
  go_wp2_with fail
  refine (R3.out _).mono ?_
  rintro e x5 ⟨q2, rfl, hv1, hb1⟩
  have C1 := ob_add (o2.below hb1) hv1 0 1 1 (by unfold maxLen; omega)
  rw [a2.1, a2.2] at C1
  have C1 := Lib.hid C1
  clear o2 hv1 hb1
  go_wp2_with fail
  refine (C1.out).mono ?_
  rintro e x6 ⟨rfl, -, F2, o3, -⟩
  clear C1
  have C1 := ob_valid o3 (by omega) (g := 0) (by decide)
  rw [kd_k, v2] at C1
  have C1 := Lib.hid C1
  go_wp2_with fail
  refine (C1.out).mono ?_
  rintro e x7 ⟨A1, n1, c1, rfl, hst, hb1⟩
  have o4 := o3.below hb1
  have C2 := Lib.hid (Bw.list_of hst (hT.out.below o4.bel) (-1))
  clear hst hb1 o3 C1
  go_wp2_with fail
  refine (C2.out).mono ?_
  rintro e x8 ⟨A2, n2, c2, rfl, hsl, hb1⟩
  have o5 := o4.below hb1
  have C3 := Lib.hid (Nc.ints_any A2 (some ⟨x8.heap.size, 0, none⟩) n2 1 c2 1 [0] [0] _ (hsl.below ((Below.refl _ _).alloc (Nat.le_refl _) _)) (Wd.Sl.lit x8 .i64 [0] 3 #[.int .i64 0] 1 rfl rfl (by decide)))
  have o6 := Lib.hid (o5.below ((Below.refl _ _).alloc (Nat.le_refl _) (.cells #[.int .i64 0] 3)))
  clear hsl hb1 o4 o5 C2
  go_wp2_with fail
  refine (C3.out).mono ?_
  rintro e x9 ⟨rfl, q, rfl⟩
  have o7 := o6.out.below (Wd.below_drewN (Below.refl _ _) q)
  clear C3 o6
  generalize (x8.alloc (.cells #[.int .i64 0] 3)).drewN q = y1 at *
  go_wp2_with fail
  refine (R5.out _).mono ?_
  rintro e x10 ⟨q2, rfl, hv1, hb1⟩
  have C1 := ob_add (o7.below hb1) hv1 0 2 2 (by unfold maxLen; omega)
  rw [a3.1, a3.2] at C1
  have C1 := Lib.hid C1
  clear o7 hv1 hb1
  go_wp2_with fail
  refine (C1.out).mono ?_
  rintro e x11 ⟨rfl, -, F3, o8, -⟩
  clear C1
  have C1 := ob_valid o8 (by omega) (g := 0) (by decide)
  rw [kd_k, v3] at C1
  have C1 := Lib.hid C1
  go_wp2_with fail
  refine (C1.out).mono ?_
  rintro e x12 ⟨A3, n3, c3, rfl, hst, hb1⟩
  have o9 := o8.below hb1
  have C2 := Lib.hid (Bw.list_of hst (hT.out.below o9.bel) (-1))
  clear hst hb1 o8 C1
  go_wp2_with fail
  refine (C2.out).mono ?_
  rintro e x13 ⟨A4, n4, c4, rfl, hsl, hb1⟩
  have o10 := o9.below hb1
  have C3 := Lib.hid (Nc.ints_any A4 (some ⟨x13.heap.size, 0, none⟩) n4 1 c4 1 [2] [2] _ (hsl.below ((Below.refl _ _).alloc (Nat.le_refl _) _)) (Wd.Sl.lit x13 .i64 [2] 3 #[.int .i64 2] 1 rfl rfl (by decide)))
  have o11 := Lib.hid (o10.below ((Below.refl _ _).alloc (Nat.le_refl _) (.cells #[.int .i64 2] 3)))
  clear hsl hb1 o9 o10 C2
  go_wp2_with fail
  refine (C3.out).mono ?_
  rintro e x14 ⟨rfl, q, rfl⟩
  have o12 := o11.out.below (Wd.below_drewN (Below.refl _ _) q)
  clear C3 o11
  generalize (x13.alloc (.cells #[.int .i64 2] 3)).drewN q = y2 at *
  have C4 := ob_keys o12
  rw [kd_k, k3] at C4
  have C4 := Lib.hid C4
  have o12 := Lib.hid o12
  go_wp2_with fail
  refine (C4.out).mono ?_
  rintro e x15 ⟨rfl, rfl⟩
  go_wp2_with fail
  go_ret
  exact ⟨rfl, o12.out.bel⟩
end Up
end Go.Proofs.YtpappcmgnnmbeaaDoor
namespace Go.Proofs.YtpappcmgnnmbeaaDoor
set_option maxRecDepth 20000
namespace Up
open Va (Vl)
open Sc (Sch FitS MayS tr tr_yes tr_no)
/-- The rows stand in segment 0, one behind the other, with the offsets of their places. -/
def Sq (L : List Rw) : Prop := ∀ (j : Nat) (r : Rw), L[j]? = some r → r.seg = 0 ∧ r.doc = (j : Int) ∧ r.off = (j : Int)
theorem seq_nil : Sq [] := fun j r h => by simp at h
theorem seq_app {L : List Rw} (h : Sq L) {r : Rw} (h0 : r.seg = 0) (h1 : r.doc = (L.length : Int)) (h2 : r.off = (L.length : Int)) : Sq (L ++ [r]) := by
  intro j x hx
  by_cases hj : j < L.length
  · rw [List.getElem?_append_left hj] at hx
    exact h j x hx
  · rw [List.getElem?_append_right (by omega)] at hx
    have hj2 : j - L.length = 0 := by
      have := (List.getElem?_eq_some_iff.1 hx).1
      simp at this
      omega
    rw [hj2] at hx
    simp only [List.getElem?_cons_zero, Option.some.injEq] at hx
    subst hx
    have : j = L.length := by omega
    subst this
    exact ⟨h0, h1, h2⟩
theorem seq_mem {L : List Rw} (h : Sq L) {r : Rw} (hr : r ∈ L) : r.seg = 0 ∧ 0 ≤ r.doc ∧ r.doc < (L.length : Int) ∧ r.off = r.doc := by
  obtain ⟨j, hj⟩ := List.mem_iff_getElem?.1 hr
  obtain ⟨h0, h1, h2⟩ := h j r hj
  have := (List.getElem?_eq_some_iff.1 hj).1
  exact ⟨h0, by omega, by omega, by omega⟩
theorem seq_one {L : List Rw} (h : Sq L) {r q : Rw} (hr : r ∈ L) (hq : q ∈ L) (e : r.doc = q.doc) : r = q := by
  obtain ⟨j, hj⟩ := List.mem_iff_getElem?.1 hr
  obtain ⟨i, hi⟩ := List.mem_iff_getElem?.1 hq
  obtain ⟨_, h1, _⟩ := h j r hj
  obtain ⟨_, h2, _⟩ := h i q hi
  have : i = j := by omega
  subst this
  rw [hj] at hi
  injection hi
/-- What the loop of the laws leaves, row by row. -/
theorem seq_add {L : List Rw} (h : Sq L) (s : Sch) (vs : List Vl) : Sq (addL s L vs 0 (L.length : Int) (L.length : Int)) ∧ (addL s L vs 0 (L.length : Int) (L.length : Int)).length = if addE s L vs 0 (L.length : Int) (L.length : Int) = 0 then L.length + 1 else L.length := by
  unfold addL
  obtain ⟨e1, e2, e3⟩ := rw_seg s vs 0 (L.length : Int) (L.length : Int)
  split
  · exact ⟨seq_app h e1 e2 e3, by simp⟩
  · exact ⟨h, rfl⟩
section
variable {L : List Rw} (h : Sq L) (k n : Int) (d : Bool)
def newR (L : List Rw) (k n : Int) (d : Bool) : Rw := ⟨vI k, n, d, 0, (L.length : Int), (L.length : Int)⟩
include h in
theorem new_free (hL : L.length ≤ 1000) (hk : (Lit.int .i64 k).wf = true) (hn : (Lit.int .i64 n).wf = true) :
    addE kS L (rowV k n d) 0 (L.length : Int) (L.length : Int) = 0 ∧ addL kS L (rowV k n d) 0 (L.length : Int) (L.length : Int) = L ++ [newR L k n d] := by
  refine add_row hk hn ⟨by omega, by omega, by omega, by omega, by omega, by omega⟩ ?_ ?_
  · rintro ⟨x, hx, _, e⟩
    have := seq_mem h hx
    omega
  · rintro ⟨b, hb, _, e⟩
    have h1 := seq_mem h (win_mem hb).1
    have h2 : b.off = (L.length : Int) := e
    omega
include h in
theorem new_win : win true (L ++ [newR L k n d]) (vI k) = some (match win true L (vI k) with | none => newR L k n d | some b => if b.cmp ≤ n then newR L k n d else b) := by
  rw [win_app, if_pos ⟨rfl, rfl⟩]
  rcases hq : win true L (vI k) with _ | b
  · rfl
  · have h1 := seq_mem h (win_mem hq).1
    show (if beats (newR L k n d) b then some (newR L k n d) else some b) = some (if b.cmp ≤ n then newR L k n d else b)
    have : beats (newR L k n d) b ↔ b.cmp ≤ n := by
      unfold beats newR
      simp only
      omega
    by_cases e : b.cmp ≤ n
    · rw [if_pos (this.2 e), if_pos e]
    · rw [if_neg (fun q => e (this.1 q)), if_neg e]
theorem new_other {v : Vl} (hv : v ≠ vI k) : win true (L ++ [newR L k n d]) v = win true L v := by
  rw [win_app, if_neg (fun q => hv q.2.symm)]
include h in
/-- It does not win: nothing turns. -/
theorem new_loses {b : Rw} (hb : win true L (vI k) = some b) (hc : n < b.cmp) : win true (L ++ [newR L k n d]) = win true L := funext fun v => by
  by_cases e : v = vI k
  · rw [e, new_win h, hb]
    simp only
    rw [if_neg (by omega)]
  · exact new_other k n d e
theorem valid_congr {L2 : List Rw} (e : win true L2 = win true L) (g : Int) : validL true L2 g = validL true L g :=
  Bs.ok_ext (valid_ok _ _ _) (valid_ok _ _ _) fun x => by rw [mem_valid, mem_valid, e]
include h in
theorem new_has (hL : L.length ≤ 1000) (hw : win true (L ++ [newR L k n d]) (vI k) = some (newR L k n d)) : decide ((L.length : Int) ∈ validL true (L ++ [newR L k n d]) 0) = !d := by
  have key : (L.length : Int) ∈ validL true (L ++ [newR L k n d]) 0 ↔ d = false := by
    rw [mem_valid]
    constructor
    · rintro ⟨⟨v, r, h1, h2, h3, h4⟩, _⟩
      rcases List.mem_append.1 (win_mem h1).1 with q | q
      · have := seq_mem h q
        omega
      · simp only [List.mem_singleton] at q
        rw [q] at h3
        exact h3
    · intro hd
      exact ⟨⟨vI k, newR L k n d, hw, rfl, hd, rfl⟩, by unfold Bs.adm; omega⟩
  cases d
  · simp only [Bool.not_false]
    exact decide_eq_true (key.2 rfl)
  · simp only [Bool.not_true]
    exact decide_eq_false (fun q => by have := key.1 q; cases this)
include h in
theorem old_has {b : Rw} (hb : win true L (vI k) = some b) (hw : win true (L ++ [newR L k n d]) (vI k) = some (newR L k n d)) : decide (b.doc ∈ validL true (L ++ [newR L k n d]) 0) = false := by
  refine decide_eq_false fun q => ?_
  rw [mem_valid] at q
  obtain ⟨⟨v, r, h1, h2, h3, h4⟩, _⟩ := q
  have hbm := (win_mem hb).1
  have h5 := seq_mem h hbm
  have hS2 : Sq (L ++ [newR L k n d]) := seq_app h rfl rfl rfl
  have hrm := (win_mem h1).1
  have := seq_one hS2 hrm (List.mem_append.2 (.inl hbm)) h4
  subst this
  have hv : v = vI k := (win_mem h1).2.1.symm.trans (win_mem hb).2.1
  rw [hv, hw] at h1
  injection h1 with h1
  have : (newR L k n d).doc < (L.length : Int) := by rw [h1]; exact h5.2.2.1
  unfold newR at this
  simp at this
end
end Up
end Go.Proofs.YtpappcmgnnmbeaaDoor
namespace Go.Proofs.YtpappcmgnnmbeaaDoor
set_option maxRecDepth 20000
open Go.RowKit Go.ChangeShapes Go.WideShapes
namespace Wd
theorem open_sl {H : Type} {enc : TypeId × Value → H} {P : Program} {W : World} {r : Reach} {base0 base : Nat} {spare : Nat → Bool} {held : Bool} {t e : TypeId} {k : IntKind} {v : Value} {d : DataW H} {ps : List MemPlace}
    (ht : P.underlying t = some (.slice e)) (he : P.underlying e = some (.int k)) (hc : P.cellsOf e = 1) (hok : Value.okWide P W r base0 t v) (h : DataW.Trod enc P W base spare held t v d ps) :
    ∃ A n c xs, v = .slice A n c ∧ Sl W k A n c xs ∧ Fits k xs := by
  obtain ⟨A, n, c, rfl⟩ := okWide_slice ht hok
  obtain ⟨fuel, hf⟩ := h
  rcases open_ints ht he hc hf with ⟨hcs, _⟩ | ⟨x, l, cc, zs, hcs, _, hl, hm, hz, _, hcell, hwz⟩
  · simp [Value.cells] at hcs
    obtain ⟨rfl, rfl, rfl⟩ := hcs
    exact ⟨none, 0, 0, [], rfl, Sl.none_ _ _, fun x hx => by simp at hx⟩
  · simp [Value.cells] at hcs
    obtain ⟨rfl, rfl, rfl⟩ := hcs
    have hlz : n ≤ zs.length := by rw [hz]; split <;> omega
    refine ⟨_, _, _, zs.take n, rfl, ⟨by simp [hlz], hl, hm, by simp, ?_⟩, fun y hy => hwz y (List.mem_of_mem_take hy)⟩
    refine Rd.take (fun j hj => ?_) n
    obtain ⟨b, o, rfl, h1⟩ := ints_at hcell (by omega)
    have h2 := h1 j hj
    exact ⟨b, o, rfl, World.block_lt_of_cell? W ⟨b, o + j, none⟩ h2, h2⟩
end Wd
end Go.Proofs.YtpappcmgnnmbeaaDoor
namespace Go.Proofs.YtpappcmgnnmbeaaDoor
set_option maxRecDepth 20000
open Go.RowKit Go.ChangeShapes Go.WideShapes
namespace Wd
open Va (Vl)
/-- A call: its row's slice, the row, the place, the offset, the id, the order's slice, the order. -/
structure Opd where
  rA : Option Addr
  rn : Nat
  rc : Nat
  row : List Vl
  seg : Int
  doc : Int
  off : Int
  id : Int
  oA : Option Addr
  on : Nat
  oc : Nat
  ord : List Int
instance : Inhabited Opd := ⟨⟨none, 0, 0, [], 0, 0, 0, 0, none, 0, 0, []⟩⟩
def Opd.vals (o : Opd) : List Value := [.slice o.rA o.rn o.rc, .int .i64 o.seg, .int .i64 o.doc, .int .i64 o.off, .int .i64 o.id, .slice o.oA o.on o.oc]
structure Op1 (w : World) (o : Opd) : Prop where
  b : Vs w o.rA o.rn o.rc o.row
  w0 : (Lit.int .i64 o.seg).wf = true
  w1 : (Lit.int .i64 o.doc).wf = true
  w2 : (Lit.int .i64 o.off).wf = true
  w3 : (Lit.int .i64 o.id).wf = true
  q : Sl w .i64 o.oA o.on o.oc o.ord
  f : Fits .i64 o.ord
/-- The slice value of address A, length n and capacity c holds the calls os. -/
structure Ops (w : World) (A : Option Addr) (n c : Nat) (os : List Opd) : Prop where
  len : n = os.length
  cap : n ≤ c
  max : c ≤ maxLen
  nil : A = none → c = 0
  at_ : ∀ j, j < os.length → ∃ b o, A = some ⟨b, o, none⟩ ∧ b < w.heap.size ∧ (∀ i v, (os.getD j default).vals[i]? = some v → w.cell? ⟨b, o + (j * 6 + i), none⟩ = some v) ∧ Op1 w (os.getD j default)
section
variable {w w' : World} {A : Option Addr} {n c : Nat} {os : List Opd} {o : Opd}
theorem Op1.below (h : Op1 w o) (hb : Below w.heap.size w w') : Op1 w' o := ⟨h.b.below hb, h.w0, h.w1, h.w2, h.w3, h.q.below hb, h.f⟩
theorem Ops.below (h : Ops w A n c os) (hb : Below w.heap.size w w') : Ops w' A n c os :=
  ⟨h.len, h.cap, h.max, h.nil, fun j hj => by
    obtain ⟨b, o, e, hlt, hc, h1⟩ := h.at_ j hj
    exact ⟨b, o, e, Nat.lt_of_lt_of_le hlt hb.size, fun i v hv => (hb.cell (p := ⟨b, o + (j * 6 + i), none⟩) hlt).trans (hc i v hv), h1.below hb⟩⟩
theorem Ops.none_ (w : World) : Ops w none 0 0 [] := ⟨rfl, Nat.le_refl _, Nat.zero_le _, fun _ => rfl, fun _ h => by simp at h⟩
/-- The cells of the j-th. -/
theorem Ops.cells (h : Ops w A n c os) {j : Nat} (hj : j < os.length) {o : Opd} (ho : o = os.getD j default) : ∃ b f, A = some ⟨b, f, none⟩ ∧ b < w.heap.size ∧ w.cell? ⟨b, f + j * 6, none⟩ = some (.slice o.rA o.rn o.rc) ∧ w.cell? ⟨b, f + j * 6 + 1, none⟩ = some (.int .i64 o.seg) ∧ w.cell? ⟨b, f + j * 6 + 2, none⟩ = some (.int .i64 o.doc) ∧
    w.cell? ⟨b, f + j * 6 + 3, none⟩ = some (.int .i64 o.off) ∧ w.cell? ⟨b, f + j * 6 + 4, none⟩ = some (.int .i64 o.id) ∧ w.cell? ⟨b, f + j * 6 + 5, none⟩ = some (.slice o.oA o.on o.oc) ∧ Op1 w o := by
  subst ho
  obtain ⟨b, f, e, hlt, hc, h1⟩ := h.at_ j hj
  exact ⟨b, f, e, hlt, hc 0 _ rfl, by rw [Nat.add_assoc]; exact hc 1 _ rfl, by rw [Nat.add_assoc]; exact hc 2 _ rfl, by rw [Nat.add_assoc]; exact hc 3 _ rfl, by rw [Nat.add_assoc]; exact hc 4 _ rfl, by rw [Nat.add_assoc]; exact hc 5 _ rfl, h1⟩
end

section
variable {H : Type} {enc : TypeId × Value → H} {P : Program} {W : World} {r : Reach} {base0 base : Nat} {spare : Nat → Bool} {held : Bool}
theorem open_vsu {t e : TypeId} {f0 f1 f2 f3 : Field} (ht : P.underlying t = some (.slice e)) (T : VlT P e f0 f1 f2 f3) {fuel : Nat} {A : Option Addr} {n c : Nat} {x : DataW H × List MemPlace} (hf : DataW.trod enc P W base spare held fuel t [.slice A n c] = some x) :
    ∃ os, Vs W A n c os := by
  rcases Go.Deep.open_slice ht hf with ⟨hcs, _⟩ | ⟨a, len, cap, m, k, D, Pl, hcs, _, hl, hm, hmm, _, hx⟩
  · simp at hcs
    obtain ⟨rfl, rfl, rfl⟩ := hcs
    exact ⟨[], Vs.none_ _⟩
  · simp at hcs
    obtain ⟨rfl, rfl, rfl⟩ := hcs
    have hnm : n ≤ m := by rw [hmm]; split <;> omega
    rw [T.c] at hx
    obtain ⟨Y, hY⟩ := Go.Deep.choose_lt (α := Vl) (n := n) (p := fun i y => (∀ j v, (Wd.vals y)[j]? = some v → W.cell? (a.add (i * 4 + j)) = some v) ∧ V1 y) (fun i hi => by
      obtain ⟨cs', h1, h2⟩ := hx i (by omega)
      obtain ⟨_, hlen, hcell⟩ := World.cells?_some h1
      obtain ⟨o, e1, h3⟩ := open_v1 T hlen h2
      refine ⟨o, fun j v hv => ?_, h3⟩
      have hj : j < 4 := by
        have := (List.getElem?_eq_some_iff.1 hv).1
        simpa [Wd.vals] using this
      have h4 := hcell j hj
      rw [Go.Deep.add_add, e1, hv] at h4
      exact h4)
    refine ⟨(List.range n).map Y, ⟨by simp, hl, hm, by simp, fun j hj => ?_⟩⟩
    simp only [List.length_map, List.length_range] at hj
    have hg : ((List.range n).map Y).getD j default = Y j := by simp [List.getD, hj]
    obtain ⟨h1, h2⟩ := hY j hj
    obtain ⟨b, off, spot⟩ := a
    have hs : spot = none := by simpa [Addr.add] using World.cell?_spot ((hY 0 (by omega)).1 0 _ rfl)
    subst hs
    have h5 := h1 0 _ rfl
    rw [Addr.add_lit] at h5
    refine ⟨b, off, rfl, World.block_lt_of_cell? W ⟨b, off + (j * 4 + 0), none⟩ h5, fun i v hv => ?_, by rw [hg]; exact h2⟩
    rw [hg] at hv
    have := h1 i v hv
    rwa [Addr.add_lit] at this
theorem open_slu {t e : TypeId} {k : IntKind} {fuel : Nat} {v : Value} {x : DataW H × List MemPlace}
    (ht : P.underlying t = some (.slice e)) (he : P.underlying e = some (.int k)) (hc : P.cellsOf e = 1) (hf : DataW.trod enc P W base spare held fuel t [v] = some x) :
    ∃ A n c xs, v = .slice A n c ∧ Sl W k A n c xs ∧ Fits k xs := by
  rcases open_ints ht he hc hf with ⟨hcs, _⟩ | ⟨a, n, c, zs, hcs, _, hl, hm, hz, _, hcell, hwz⟩
  · simp only [List.cons.injEq, and_true] at hcs
    exact ⟨none, 0, 0, [], hcs, Sl.none_ _ _, fun x hx => by simp at hx⟩
  · simp only [List.cons.injEq, and_true] at hcs
    have hlz : n ≤ zs.length := by rw [hz]; split <;> omega
    refine ⟨_, _, _, zs.take n, hcs, ⟨by simp [hlz], hl, hm, by simp, ?_⟩, fun y hy => hwz y (List.mem_of_mem_take hy)⟩
    refine Rd.take (fun j hj => ?_) n
    obtain ⟨b, o, rfl, h1⟩ := ints_at hcell (by omega)
    have h2 := h1 j hj
    exact ⟨b, o, rfl, World.block_lt_of_cell? W ⟨b, o + j, none⟩ h2, h2⟩
/-- The type of a call: its five fields, the place's two. -/
structure OpT (P : Program) (t : TypeId) (f0 f1 f2 f3 f4 : Field) (p0 p1 : Field) (e e2 : TypeId) (g0 g1 g2 g3 : Field) : Prop where
  u : P.underlying t = some (.struct #[f0, f1, f2, f3, f4])
  c : P.cellsOf t = 6
  o0 : f0.offset = 0
  o1 : f1.offset = 1
  o2 : f2.offset = 3
  o3 : f3.offset = 4
  o4 : f4.offset = 5
  c0 : P.cellsOf f0.type = 1
  c1 : P.cellsOf f1.type = 2
  c2 : P.cellsOf f2.type = 1
  c3 : P.cellsOf f3.type = 1
  c4 : P.cellsOf f4.type = 1
  u0 : P.underlying f0.type = some (.slice e)
  u1 : P.underlying f1.type = some (.struct #[p0, p1])
  u2 : P.underlying f2.type = some (.int .i64)
  u3 : P.underlying f3.type = some (.int .i64)
  u4 : P.underlying f4.type = some (.slice e2)
  q0 : p0.offset = 0
  q1 : p1.offset = 1
  r0 : P.cellsOf p0.type = 1
  r1 : P.cellsOf p1.type = 1
  s0 : P.underlying p0.type = some (.int .i64)
  s1 : P.underlying p1.type = some (.int .i64)
  k : VlT P e g0 g1 g2 g3
  i : P.underlying e2 = some (.int .i64)
  ic : P.cellsOf e2 = 1
theorem open_op1 {t : TypeId} {f0 f1 f2 f3 f4 p0 p1 : Field} {e e2 : TypeId} {g0 g1 g2 g3 : Field} (T : OpT P t f0 f1 f2 f3 f4 p0 p1 e e2 g0 g1 g2 g3) {fuel : Nat} {cs : List Value} {x : DataW H × List MemPlace} (hl : cs.length = 6) (h : DataW.trod enc P W base spare held fuel t cs = some x) :
    ∃ o : Opd, cs = o.vals ∧ Op1 W o := by
  obtain ⟨xs, k, hk, hxy, _, hxl, hf⟩ := DataW.trod_struct T.u h
  match xs, hxl, cs, hl with
  | [y0, y1, y2, y3, y4], _, [v0, v1, v2, v3, v4, v5], _ =>
    have q0 := hf 0 f0 rfl
    have q1 := hf 1 f1 rfl
    have q2 := hf 2 f2 rfl
    have q3 := hf 3 f3 rfl
    have q4 := hf 4 f4 rfl
    simp [T.o0, T.o1, T.o2, T.o3, T.o4, T.c0, T.c1, T.c2, T.c3, T.c4] at q0 q1 q2 q3 q4
    obtain ⟨A, n, c, rfl⟩ := trod_slice_one T.u0 q0
    obtain ⟨os, hc⟩ := open_vsu T.u0 T.k q0
    obtain ⟨a2, z2, _, w2⟩ := DataW.trod_int T.u2 q2
    obtain ⟨a3, z3, _, w3⟩ := DataW.trod_int T.u3 q3
    obtain ⟨B, m, d, ys, z4, hS, hFi⟩ := open_slu T.u4 T.i T.ic q4
    obtain ⟨xs2, k2, hk2, hxy2, _, hxl2, hf2⟩ := DataW.trod_struct T.u1 q1
    match xs2, hxl2 with
    | [t0, t1], _ =>
      have s0 := hf2 0 p0 rfl
      have s1 := hf2 1 p1 rfl
      simp [T.q0, T.q1, T.r0, T.r1] at s0 s1
      obtain ⟨b0, u0, _, x0⟩ := DataW.trod_int T.s0 s0
      obtain ⟨b1, u1, _, x1⟩ := DataW.trod_int T.s1 s1
      simp only [List.cons.injEq, and_true] at z2 z3 u0 u1
      subst z2 z3 z4 u0 u1
      exact ⟨⟨A, n, c, os, b0, b1, a2, a3, B, m, d, ys⟩, rfl, ⟨hc, x0, x1, w2, w3, hS, hFi⟩⟩
theorem open_ops {t e : TypeId} {f0 f1 f2 f3 f4 : Field} {p0 p1 : Field} {e1 e2 : TypeId} {g0 g1 g2 g3 : Field} (ht : P.underlying t = some (.slice e)) (T : OpT P e f0 f1 f2 f3 f4 p0 p1 e1 e2 g0 g1 g2 g3) {v : Value} {d : DataW H} {ps : List MemPlace} (hok : Value.okWide P W r base0 t v) (h : DataW.Trod enc P W base spare held t v d ps) :
    ∃ A n c os, v = .slice A n c ∧ Ops W A n c os := by
  obtain ⟨A, n, c, rfl⟩ := okWide_slice ht hok
  obtain ⟨fuel, hf⟩ := h
  rcases Go.Deep.open_slice ht hf with ⟨hcs, _⟩ | ⟨a, len, cap, m, k, D, Pl, hcs, _, hl, hm, hmm, _, hx⟩
  · simp [Value.cells] at hcs
    obtain ⟨rfl, rfl, rfl⟩ := hcs
    exact ⟨none, 0, 0, [], rfl, Ops.none_ _⟩
  · simp [Value.cells] at hcs
    obtain ⟨rfl, rfl, rfl⟩ := hcs
    have hnm : n ≤ m := by rw [hmm]; split <;> omega
    rw [T.c] at hx
    obtain ⟨Y, hY⟩ := Go.Deep.choose_lt (α := Opd) (n := n) (p := fun i y => (∀ j v, y.vals[j]? = some v → W.cell? (a.add (i * 6 + j)) = some v) ∧ Op1 W y) (fun i hi => by
      obtain ⟨cs', h1, h2⟩ := hx i (by omega)
      obtain ⟨_, hlen, hcell⟩ := World.cells?_some h1
      obtain ⟨o, e1, h3⟩ := open_op1 T hlen h2
      refine ⟨o, fun j v hv => ?_, h3⟩
      have hj : j < 6 := by
        have := (List.getElem?_eq_some_iff.1 hv).1
        simpa [Opd.vals] using this
      have h4 := hcell j hj
      rw [Go.Deep.add_add, e1, hv] at h4
      exact h4)
    refine ⟨some a, n, c, (List.range n).map Y, rfl, ⟨by simp, hl, hm, by simp, fun j hj => ?_⟩⟩
    simp only [List.length_map, List.length_range] at hj
    have hg : ((List.range n).map Y).getD j default = Y j := by simp [List.getD, hj]
    obtain ⟨h1, h2⟩ := hY j hj
    obtain ⟨b, off, spot⟩ := a
    have hs : spot = none := by simpa [Addr.add] using World.cell?_spot ((hY 0 (by omega)).1 0 _ rfl)
    subst hs
    have h5 := h1 0 _ rfl
    rw [Addr.add_lit] at h5
    refine ⟨b, off, rfl, World.block_lt_of_cell? W ⟨b, off + (j * 6 + 0), none⟩ h5, fun i v hv => ?_, by rw [hg]; exact h2⟩
    rw [hg] at hv
    have := h1 i v hv
    rwa [Addr.add_lit] at this
end
theorem opT : ∃ f0 f1 f2 f3 f4 p0 p1 g0 g1 g2 g3, OpT Tryd.prog 44 f0 f1 f2 f3 f4 p0 p1 27 3 g0 g1 g2 g3 :=
  ⟨_, _, _, _, _, _, _, _, _, _, _, ⟨Tryd.underlying44, by kernel_rfl, rfl, rfl, rfl, rfl, rfl, by kernel_rfl, by kernel_rfl, by kernel_rfl, by kernel_rfl, by kernel_rfl, Tryd.underlying40, Tryd.underlying42, Tryd.underlying3, Tryd.underlying3, Tryd.underlying28,
    rfl, rfl, by kernel_rfl, by kernel_rfl, Tryd.underlying3, Tryd.underlying3,
    ⟨Tryd.underlying27, by kernel_rfl, rfl, rfl, rfl, rfl, by kernel_rfl, by kernel_rfl, by kernel_rfl, by kernel_rfl, Tryd.underlying3, Tryd.underlying3, Tryd.underlying9, Tryd.underlying4⟩, Tryd.underlying3, by kernel_rfl⟩⟩
end Wd
end Go.Proofs.YtpappcmgnnmbeaaDoor
