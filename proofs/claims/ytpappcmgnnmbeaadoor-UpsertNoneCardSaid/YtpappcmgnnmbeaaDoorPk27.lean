/- A table as an object of a law; the chapter's example. Package bitset: Count; math/bits' OnesCount64. Package bitset: Upto. -/
import Derived.Outline
import Derived.BigRegion
import Derived.Deep.DeepCutAuto
import Derived.Deep.CutRange
import Derived.Test.YtpappcmgnnmbeaaDoorPk23
import Derived.Test.YtpappcmgnnmbeaaDoorPk24
import Derived.Test.YtpappcmgnnmbeaaDoorPk26
import Derived.Test.YtpappcmgnnmbeaaDoorPk09
import Derived.Test.YtpappcmgnnmbeaaDoorPk25
import Derived.Test.YtpappcmgnnmbeaaDoorPk20
namespace Go.Proofs.YtpappcmgnnmbeaaDoor
set_option maxRecDepth 20000
open Go.RowKit Go.Maps
namespace Up
open Va (Vl)
open Sc (Sch FitS MayS tr tr_yes tr_no)
/-- A table in memory that is new since wo. -/
structure Ob (wo w : World) (t : Nat) (s : Sch) (L : List Rw) (N : Nat) (F : Nat → Prop) : Prop where
  tb : Tbl w t s L N F
  bel : Below wo.heap.size wo w
  new : ∀ x, F x → wo.heap.size ≤ x
section
variable {wo w w' : World} {t : Nat} {s : Sch} {L : List Rw} {N : Nat} {F : Nat → Prop}
theorem Ob.below (h : Ob wo w t s L N F) (hb : Below w.heap.size w w') : Ob wo w' t s L N F := ⟨h.tb.below hb, h.bel.trans (hb.mono h.bel.size), h.new⟩
theorem Ob.drew (h : Ob wo w t s L N F) : Ob wo w.drew t s L N F := h.below (Below.refl _ _).drew
theorem gr_new {F' : Nat → Prop} (hF : ∀ x, F x → wo.heap.size ≤ x) (hb : wo.heap.size ≤ w.heap.size) (hg : ∀ x, F' x → Wd.Gr F w w' x) : ∀ x, F' x → wo.heap.size ≤ x := fun x hx => by
  rcases hg x hx with q | q
  · exact hF x q
  · omega
theorem ob_new {A : Option Addr} {n c : Nat} (hS : Wd.Cs w A n c s.cols) (hn : n ≤ 1000000) (hM : MayS s) (hb : Below wo.heap.size wo w) :
    Calls Tryd.prog 13 #[.agg #[.slice A n c, .int .i64 s.key, .int .i64 s.cmp, .int .i64 s.del, .int .i64 s.sort]] w fun e w' => ∃ t F, e = .returned (.tuple #[.pointer (some ⟨t, 0, none⟩), .int .i64 0]) ∧ Ob wo w' t s [] 0 F ∧ Below w.heap.size w w' ∧ ∀ x, F x → w.heap.size ≤ x := by
  refine (new_any hS hn).mono ?_
  rintro e w' ⟨hb2, ⟨h1, _⟩ | ⟨_, t, F, h1, h2, h3⟩⟩
  · exact absurd hM h1
  · exact ⟨t, F, h1, ⟨h2, hb.trans (hb2.mono hb.size), fun x hx => Nat.le_trans hb.size (h3 x hx)⟩, hb2, h3⟩
theorem ob_add (h : Ob wo w t s L N F) {R : Option Addr} {m d : Nat} {vs : List Vl} (hV : Wd.Vs w R m d vs) (seg doc off : Int) (hN : N + 8 < maxLen) :
    Calls Tryd.prog 25 #[.pointer (some ⟨t, 0, none⟩), .slice R m d, .agg #[.int .i64 seg, .int .i64 doc], .int .i64 off] w fun e w' => e = .returned (.int .i64 (addE s L vs seg doc off)) ∧ Wd.Mv F w w' ∧
      ∃ F', Ob wo w' t s (addL s L vs seg doc off) (N + 4) F' ∧ ∀ x, F' x → Wd.Gr F w w' x := by
  refine (add_any h.tb hV seg doc off hN).mono ?_
  rintro e w' ⟨h1, mv, F', h2, h3⟩
  exact ⟨h1, mv, F', ⟨h2, h.bel.trans (mv.below h.new h.bel.size), gr_new h.new h.bel.size h3⟩, h3⟩
theorem ob_valid (h : Ob wo w t s L N F) (hN : N ≤ 100000) {g : Int} (hg : (Lit.int .i64 g).wf = true) : Calls Tryd.prog 21 #[.pointer (some ⟨t, 0, none⟩), .int .i64 g] w (Bi.Gv Bw.St w (validL (kdS s) L g)) := valid_any h.tb hN hg
theorem ob_keys (h : Ob wo w t s L N F) : Calls Tryd.prog 23 #[.pointer (some ⟨t, 0, none⟩)] w fun e w' => e = .returned (.int .i64 (keysN (kdS s) L : Int)) ∧ w' = w := by
  obtain ⟨A, n, c, bd, bw, bs, nd, nw, fd, fw, hl, _⟩ := h.tb
  exact keys_lay hl
theorem ob_find (h : Ob wo w t s L N F) {v : Vl} (hv : kV.ok v) : Calls Tryd.prog 17 #[.pointer (some ⟨t, 0, none⟩), .agg #[.int .i64 v.kind, .int .i64 v.i, .string v.s, .bool v.b]] w fun e w' => e = .returned (.tuple #[wv (best (win (kdS s) L) v), .bool (win (kdS s) L v).isSome]) ∧ Below w.heap.size w w' := by
  obtain ⟨A, n, c, bd, bw, bs, nd, nw, fd, fw, hl, hO, _⟩ := h.tb
  exact find_lay hl (hO.segOk _) hv
end
/-- Add of a row of the law's own schema. -/
theorem add_row {L : List Rw} {k n : Int} {d : Bool} {seg doc off : Int} (hk : (Lit.int .i64 k).wf = true) (hn : (Lit.int .i64 n).wf = true) (hP : PlaceOk seg doc off) (h1 : ¬ Here L seg doc) (h2 : ¬ TieW (win true L) (vI k) ⟨vI k, n, d, seg, doc, off⟩) :
    addE kS L (rowV k n d) seg doc off = 0 ∧ addL kS L (rowV k n d) seg doc off = L ++ [⟨vI k, n, d, seg, doc, off⟩] := by
  have e : addE kS L (rowV k n d) seg doc off = 0 := by
    unfold addE
    rw [tr_yes ⟨fit_row d hk hn, hP⟩, if_pos rfl, tr_no, if_neg (by decide)]
    rintro (q | q)
    · exact h1 q
    · rw [rw_row] at q
      exact h2 q
  refine ⟨e, ?_⟩
  unfold addL
  rw [if_pos e, rw_row]
def e1 : Rw := ⟨vI 1, 5, false, 0, 0, 0⟩
def e2 : Rw := ⟨vI 1, 3, false, 0, 1, 1⟩
def e3 : Rw := ⟨vI 1, 5, false, 0, 2, 2⟩
theorem w1 : win true [e1] (vI 1) = some e1 := by decide +kernel
theorem w2 : win true [e1, e2] (vI 1) = some e1 := by decide +kernel
theorem a1 : addE kS [] (rowV 1 5 false) 0 0 0 = 0 ∧ addL kS [] (rowV 1 5 false) 0 0 0 = [e1] :=
  add_row (by decide) (by decide) (by decide) (by rintro ⟨x, hx, _⟩; cases hx) (by rintro ⟨b, hb, _⟩; rw [win_nil] at hb; cases hb)
theorem a2 : addE kS [e1] (rowV 1 3 false) 0 1 1 = 0 ∧ addL kS [e1] (rowV 1 3 false) 0 1 1 = [e1, e2] :=
  add_row (by decide) (by decide) (by decide) (by rintro ⟨x, hx, _, h⟩; simp only [List.mem_singleton] at hx; subst hx; revert h; decide) (by rintro ⟨b, hb, h, _⟩; rw [w1] at hb; cases hb; revert h; decide)
theorem a3 : addE kS [e1, e2] (rowV 1 5 false) 0 2 2 = 0 ∧ addL kS [e1, e2] (rowV 1 5 false) 0 2 2 = [e1, e2, e3] :=
  add_row (by decide) (by decide) (by decide) (by
    rintro ⟨x, hx, _, h⟩
    simp only [List.mem_cons, List.not_mem_nil, or_false] at hx
    rcases hx with rfl | rfl <;> revert h <;> decide) (by rintro ⟨b, hb, _, h⟩; rw [w2] at hb; cases hb; revert h; decide)
theorem v2 : validL true [e1, e2] 0 = [0] := by decide +kernel
theorem v3 : validL true [e1, e2, e3] 0 = [2] := by decide +kernel
theorem k3 : keysN true [e1, e2, e3] = 1 := by decide +kernel
set_option maxHeartbeats 4000000 in
theorem awake_any (w : World) (hT : Bi.Tab w) : Calls Tryd.prog 10 #[] w fun e w' => e = .returned (.bool true) ∧ Below w.heap.size w w' := by
  have hT := Lib.hid hT
  have Ck := Lib.hid (Keyed_any w)
  have R5 := Lib.hid fun wx => row_any (k := 1) (n := 5) false (by decide) (by decide) wx
  have R3 := Lib.hid fun wx => row_any (k := 1) (n := 3) false (by decide) (by decide) wx
  go_enter Tryd.func10, Tryd.ntmps10
  go_wp2_with fail
  refine (Ck.out).mono ?_
  rintro e x1 ⟨A, rfl, hS, hb1⟩
  have Cn := Lib.hid (ob_new (wo := w) (s := kS) hS (by omega) k_may hb1)
  clear hS hb1
  go_wp2_with fail
  refine (Cn.out).mono ?_
  rintro e x2 ⟨t, F0, rfl, o1, -, -⟩
  go_wp2_with fail
  refine (R5.out _).mono ?_
  rintro e x3 ⟨q1, rfl, hv1, hb1⟩
  have C1 := ob_add (o1.below hb1) hv1 0 0 0 (by unfold maxLen; omega)
  rw [a1.1, a1.2] at C1
  have C1 := Lib.hid C1
  clear o1 hv1 hb1
  go_wp2_with fail
  refine (C1.out).mono ?_
  rintro e x4 ⟨rfl, -, F1, o2, -⟩
  clear C1
  go_wp2_with fail
  refine (R3.out _).mono ?_
  rintro e x5 ⟨q2, rfl, hv1, hb1⟩
  have C1 := ob_add (o2.below hb1) hv1 0 1 1 (by unfold maxLen; omega)
  rw [a2.1, a2.2] at C1
  have C1 := Lib.hid C1
  clear o2 hv1 hb1
  go_wp2_with fail
  refine (C1.out).mono ?_
  rintro e x6 ⟨rfl, -, F2, o3, -⟩
  clear C1
  have C1 := ob_valid o3 (by omega) (g := 0) (by decide)
  rw [kd_k, v2] at C1
  have C1 := Lib.hid C1
  go_wp2_with fail
  refine (C1.out).mono ?_
  rintro e x7 ⟨A1, n1, c1, rfl, hst, hb1⟩
  have o4 := o3.below hb1
  have C2 := Lib.hid (Bw.list_of hst (hT.out.below o4.bel) (-1))
  clear hst hb1 o3 C1
  go_wp2_with fail
  refine (C2.out).mono ?_
  rintro e x8 ⟨A2, n2, c2, rfl, hsl, hb1⟩
  have o5 := o4.below hb1
  have C3 := Lib.hid (Nc.ints_any A2 (some ⟨x8.heap.size, 0, none⟩) n2 1 c2 1 [0] [0] _ (hsl.below ((Below.refl _ _).alloc (Nat.le_refl _) _)) (Wd.Sl.lit x8 .i64 [0] 3 #[.int .i64 0] 1 rfl rfl (by decide)))
  have o6 := Lib.hid (o5.below ((Below.refl _ _).alloc (Nat.le_refl _) (.cells #[.int .i64 0] 3)))
  clear hsl hb1 o4 o5 C2
  go_wp2_with fail
  refine (C3.out).mono ?_
  rintro e x9 ⟨rfl, q, rfl⟩
  have o7 := o6.out.below (Wd.below_drewN (Below.refl _ _) q)
  clear C3 o6
  generalize (x8.alloc (.cells #[.int .i64 0] 3)).drewN q = y1 at *
  go_wp2_with fail
  refine (R5.out _).mono ?_
  rintro e x10 ⟨q2, rfl, hv1, hb1⟩
  have C1 := ob_add (o7.below hb1) hv1 0 2 2 (by unfold maxLen; omega)
  rw [a3.1, a3.2] at C1
  have C1 := Lib.hid C1
  clear o7 hv1 hb1
  go_wp2_with fail
  refine (C1.out).mono ?_
  rintro e x11 ⟨rfl, -, F3, o8, -⟩
  clear C1
  have C1 := ob_valid o8 (by omega) (g := 0) (by decide)
  rw [kd_k, v3] at C1
  have C1 := Lib.hid C1
  go_wp2_with fail
  refine (C1.out).mono ?_
  rintro e x12 ⟨A3, n3, c3, rfl, hst, hb1⟩
  have o9 := o8.below hb1
  have C2 := Lib.hid (Bw.list_of hst (hT.out.below o9.bel) (-1))
  clear hst hb1 o8 C1
  go_wp2_with fail
  refine (C2.out).mono ?_
  rintro e x13 ⟨A4, n4, c4, rfl, hsl, hb1⟩
  have o10 := o9.below hb1
  have C3 := Lib.hid (Nc.ints_any A4 (some ⟨x13.heap.size, 0, none⟩) n4 1 c4 1 [2] [2] _ (hsl.below ((Below.refl _ _).alloc (Nat.le_refl _) _)) (Wd.Sl.lit x13 .i64 [2] 3 #[.int .i64 2] 1 rfl rfl (by decide)))
  have o11 := Lib.hid (o10.below ((Below.refl _ _).alloc (Nat.le_refl _) (.cells #[.int .i64 2] 3)))
  clear hsl hb1 o9 o10 C2
  go_wp2_with fail
  refine (C3.out).mono ?_
  rintro e x14 ⟨rfl, q, rfl⟩
  have o12 := o11.out.below (Wd.below_drewN (Below.refl _ _) q)
  clear C3 o11
  generalize (x13.alloc (.cells #[.int .i64 2] 3)).drewN q = y2 at *
  have C4 := ob_keys o12
  rw [kd_k, k3] at C4
  have C4 := Lib.hid C4
  have o12 := Lib.hid o12
  go_wp2_with fail
  refine (C4.out).mono ?_
  rintro e x15 ⟨rfl, rfl⟩
  go_wp2_with fail
  go_ret
  exact ⟨rfl, o12.out.bel⟩
end Up
end Go.Proofs.YtpappcmgnnmbeaaDoor
namespace Go.Proofs.YtpappcmgnnmbeaaDoor
set_option maxRecDepth 20000
open Go.RowKit
namespace Bw
open Bs Bx Bi
theorem and_i64 (a : Nat) (ha : a < 9223372036854775808) : bits .and .i64 (a : Int) 127 = ((a % 128 : Nat) : Int) := by
  have h1 : (BitVec.ofInt 64 (a : Int)).toNat = a := by
    rw [BitVec.ofInt_natCast, BitVec.toNat_ofNat]; exact Nat.mod_eq_of_lt (by omega)
  have h2 : (BitVec.ofInt 64 (127 : Int)).toNat = 127 := by decide
  show IntKind.i64.wrap ((BitVec.ofInt 64 (a : Int) &&& BitVec.ofInt 64 (127 : Int)).toNat : Int) = _
  rw [BitVec.toNat_and, h1, h2, show (127 : Nat) = 2 ^ 7 - 1 by rfl, Nat.and_two_pow_sub_one_eq_mod, IntKind.wrap_i64]
  omega
set_option maxHeartbeats 2000000 in
theorem ones_any (x : Nat) (hx : x < 18446744073709551616) (w : World) :
    Calls Tryd.prog 55 #[.int .u64 (x : Int)] w fun e w' => e = .returned (.int .i64 (pop x : Int)) ∧ w' = w := by
  obtain ⟨x1, x2, x3, x4, x5, x6, h1, l1, h2, l2, l3, h3, h4, l4, h5, l5, h6, l6, hp⟩ := ones_all x hx
  have a1 := bits_and_u64_nat (x / 2) 6148914691236517205 (by omega) (by omega)
  have a2 := bits_and_u64_nat x 6148914691236517205 (by omega) (by omega)
  have a3 := bits_and_u64_nat (x1 / 4) 3689348814741910323 (by omega) (by omega)
  have a4 := bits_and_u64_nat x1 3689348814741910323 (by omega) (by omega)
  have a5 := bits_and_u64_nat (x2 / 16 + x2) 1085102592571150095 (by omega) (by omega)
  have a6 := and_i64 x6 (by omega)
  obtain ⟨p1, hp1⟩ : ∃ p, p = x / 2 &&& 6148914691236517205 := ⟨_, rfl⟩
  obtain ⟨p2, hp2⟩ : ∃ p, p = x &&& 6148914691236517205 := ⟨_, rfl⟩
  obtain ⟨p3, hp3⟩ : ∃ p, p = x1 / 4 &&& 3689348814741910323 := ⟨_, rfl⟩
  obtain ⟨p4, hp4⟩ : ∃ p, p = x1 &&& 3689348814741910323 := ⟨_, rfl⟩
  rw [← hp1, ← hp2] at h1
  rw [← hp3, ← hp4] at h2
  rw [← hp1] at a1
  rw [← hp2] at a2
  rw [← hp3] at a3
  rw [← hp4] at a4
  rw [← h3] at a5
  rw [hp] at a6
  have w1 : IntKind.u64.wrap ((p1 : Int) + (p2 : Int)) = (x1 : Int) := by rw [IntKind.wrap_u64]; omega
  have w2 : IntKind.u64.wrap ((p3 : Int) + (p4 : Int)) = (x2 : Int) := by rw [IntKind.wrap_u64]; omega
  have w3 : IntKind.u64.wrap ((x2 : Int) / 16 + (x2 : Int)) = ((x2 / 16 + x2 : Nat) : Int) := by rw [IntKind.wrap_u64]; omega
  have w4 : IntKind.u64.wrap ((x3 : Int) + (x3 : Int) / 256) = (x4 : Int) := by rw [IntKind.wrap_u64]; omega
  have w5 : IntKind.u64.wrap ((x4 : Int) + (x4 : Int) / 65536) = (x5 : Int) := by rw [IntKind.wrap_u64]; omega
  have w6 : IntKind.u64.wrap ((x5 : Int) + (x5 : Int) / 4294967296) = (x6 : Int) := by rw [IntKind.wrap_u64]; omega
  have w7 : IntKind.i64.wrap (x6 : Int) = (x6 : Int) := by rw [IntKind.wrap_i64]; omega
  obtain ⟨r, hr⟩ : ∃ r, r = pop x := ⟨_, rfl⟩
  rw [← hr] at a6 ⊢
  clear hp1 hp2 hp3 hp4 h1 h2 h3 h4 h5 h6 l1 l2 l3 l4 l5 l6 hp hr
  simp only [Int.natCast_ediv, Int.natCast_add, Int.cast_ofNat_Int] at a1 a2 a3 a4 a5 w3
  go_enter Tryd.func55, Tryd.ntmps55
  go_wp2_with fail
  go_ret
  exact ⟨rfl, rfl⟩
theorem sum_next (L : List Nat) (q : Nat) (h : q < L.length) : ((L.take (q + 1)).map pop).sum = ((L.take q).map pop).sum + pop (L.getD q 0) := by
  rw [List.take_succ_eq_append_getElem h, List.map_append, List.sum_append]
  simp [List.getD, h]
set_option maxHeartbeats 4000000 in
theorem count_any (A : Option Addr) (n c : Nat) (X : List Int) (w : World) (hX : St w A n c X) :
    Calls Tryd.prog 29 #[.agg #[.slice A n c]] w fun e w' => e = .returned (.int .i64 (X.length : Int)) ∧ Below w.heap.size w w' := by
  obtain ⟨L, hS, hL, tL, rfl⟩ := hX
  have hb0 := (Below.refl w.heap.size w).alloc (Nat.le_refl _) (.cells #[.slice A n c] 54)
  have c0 := box1 w A n c
  have hcap := hS.cap
  have hmx := hS.max
  unfold maxLen at hmx
  have hn : n = L.length := by rw [hS.len, nat_len]
  have hn1 : n ≤ 1024 := by rw [hn]; exact hL.1
  have HS := Lib.hid (hS.below hb0)
  have Hn := Lib.hid hn
  have HL := Lib.hid hL
  have Hb := Lib.hid hb0
  have Ones := Lib.hid fun x hx w => ones_any x hx w
  obtain ⟨T, hT⟩ : ∃ T : Nat → Nat, T = fun q => ((L.take q).map pop).sum := ⟨_, rfl⟩
  have HT1 := Lib.hid (show ∀ q, q < n → T (q + 1) = T q + pop (L.getD q 0) from fun q hq => by rw [hT]; exact sum_next L q (by omega))
  have HT2 := Lib.hid (show ∀ q, q ≤ n → T q ≤ 65536 from fun q hq => by rw [hT]; have := sum_le (L.take q); simp only [List.length_take] at this; show ((L.take q).map pop).sum ≤ 65536; omega)
  have HT3 := Lib.hid (show T n = (lstW L).length by rw [hT, lstW_len, hn]; show ((L.take L.length).map pop).sum = _; rw [List.take_length])
  have HT0 := Lib.hid (show T 0 = 0 by rw [hT]; rfl)
  rw [← HT3.out]
  clear hS hn hL tL hT hb0
  go_enter Tryd.func29, Tryd.ntmps29
  go_wp2_with fail
  go_loopw [3, 5, 9] (fun s u j wr => ∃ q : Nat, j = .int .i64 q ∧ q ≤ n ∧ s = .int .i64 (T q : Int) ∧ wr = w.alloc (.cells #[.slice A n c] 54)) (fun _ _ j _ => n - (intOf j).toNat)
  case atStart => exact ⟨0, rfl, Nat.zero_le _, by rw [HT0.out]; rfl, rfl⟩
  case round =>
    obtain ⟨q, rfl, hk, rfl, rfl⟩ := hrel
    by_cases hlt : q < n
    · have hkI : (q : Int) < n := by omega
      have hq0 : (0 : Int) ≤ (q : Int) := by omega
      obtain ⟨b1, o1, hA1, hb1, hc1⟩ := HS.out.rd q (by rw [nat_len, ← Hn.out]; omega)
      subst hA1
      rw [nat_getD] at hc1
      have C := Lib.hid (Ones.out (L.getD q 0) (HL.out.2 q))
      have h1 := HT1.out q hlt
      have h2 := HT2.out q hk
      have h3 := HT2.out (q + 1) (by omega)
      obtain ⟨x, hx⟩ : ∃ x, x = L.getD q 0 := ⟨_, rfl⟩
      rw [← hx] at hc1 C h1
      obtain ⟨p, hp⟩ : ∃ p, p = pop x := ⟨_, rfl⟩
      rw [← hp] at C h1
      have e1 : IntKind.i64.wrap ((T q : Int) + (p : Int)) = (T (q + 1) : Int) := by rw [IntKind.wrap_i64]; omega
      have e2 : (T q : Int) + (p : Int) = (T (q + 1) : Int) := by omega
      obtain ⟨y, hy⟩ : ∃ y, y = T (q + 1) := ⟨_, rfl⟩
      rw [← hy] at e1 e2
      have hy1 : y ≤ 65536 := by omega
      have Hy := Lib.hid hy
      clear hx hp h1 h2 h3 hy
      go_wp2_with fail
      refine (C.out _).mono ?_
      rintro e w2 ⟨rfl, rfl⟩
      go_wp2_with fail
      go_roundw
      case rel => exact ⟨q + 1, by go_num, by omega, by rw [← Hy.out], trivial⟩
      case measure => simp [intOf]; omega
    · have hkI : ¬ (q : Int) < n := by omega
      obtain rfl : q = n := by omega
      go_wp2_with fail
      go_ret
      exact ⟨rfl, Hb.out⟩
end Bw
end Go.Proofs.YtpappcmgnnmbeaaDoor
namespace Go.Proofs.YtpappcmgnnmbeaaDoor
set_option maxRecDepth 20000
open Go.RowKit
namespace Bw
open Bs Bx Bi
/-- The first k words are those of T, the others those of L. -/
def mix (T L : List Nat) (k : Nat) : List Nat := T.take k ++ L.drop k
theorem mix_zero (T L : List Nat) : mix T L 0 = L := by simp [mix]
theorem mix_len {T L : List Nat} (h : T.length = L.length) (k : Nat) : (mix T L k).length = L.length := by simp [mix]; omega
theorem mix_at {T L : List Nat} (h : T.length = L.length) (k j : Nat) : (mix T L k).getD j 0 = if j < k then T.getD j 0 else L.getD j 0 := by
  unfold mix
  by_cases q : j < T.length
  · by_cases r : j < k
    · rw [if_pos r, List.getD_eq_getElem?_getD, List.getElem?_append_left (by simp; omega), List.getElem?_take, if_pos r, List.getD_eq_getElem?_getD]
    · rw [if_neg r, List.getD_eq_getElem?_getD, List.getElem?_append_right (by simp; omega), List.getElem?_drop, List.getD_eq_getElem?_getD]
      congr 2
      simp
      omega
  · rw [getD_out (L := T.take k ++ L.drop k) (by simp; omega), getD_out (L := T) (by omega), getD_out (L := L) (by omega)]
    split <;> rfl
theorem ext_getD {L M : List Nat} (hl : L.length = M.length) (h : ∀ j, L.getD j 0 = M.getD j 0) : L = M := by
  refine List.ext_getElem hl fun k h1 h2 => ?_
  have := h k
  rw [List.getD_eq_getElem?_getD, List.getD_eq_getElem?_getD, List.getElem?_eq_getElem h1, List.getElem?_eq_getElem h2] at this
  exact this
theorem mix_set {T L : List Nat} (h : T.length = L.length) (k : Nat) (hk : k < L.length) : (mix T L k).set k (T.getD k 0) = mix T L (k + 1) := by
  refine ext_getD (by simp [mix_len h]) fun j => ?_
  rw [getD_set _ _ _ _ (by rw [mix_len h]; exact hk), mix_at h, mix_at h]
  by_cases e : j = k
  · subst e
    rw [if_pos rfl, if_pos (by omega)]
  · rw [if_neg e]
    by_cases q : j < k
    · rw [if_pos q, if_pos (by omega)]
    · rw [if_neg q, if_neg (by omega)]
theorem mix_end {T L : List Nat} (h : T.length = L.length) {k : Nat} (hk : ∀ j, k ≤ j → j < L.length → T.getD j 0 = L.getD j 0) : mix T L k = T := by
  refine ext_getD (by rw [mix_len h, h]) fun j => ?_
  rw [mix_at h]
  by_cases q : j < k
  · rw [if_pos q]
  · rw [if_neg q]
    by_cases r : j < L.length
    · exact (hk j (by omega) r).symm
    · rw [getD_out (L := L) (by omega), getD_out (L := T) (by omega)]
/-- What Upto answers: a row of the call's own. -/
def UpA (w : World) (k : Int) (e : Ending) (w' : World) : Prop := ∃ A n c, e = .returned (.agg #[.slice A n c]) ∧ Ow w' w.heap.size (.slice A n c) (uptoW (cut k)) ∧ Below w.heap.size w w'
theorem upto_full {n : Nat} (h : n % 64 = 0) : List.replicate ((n + 63) / 64) 18446744073709551615 = uptoW n := by
  refine ext_getD (by rw [upto_len]; simp) fun j => ?_
  by_cases q : j < (n + 63) / 64
  · rw [upto_getD n j q, if_pos (by omega), List.getD_eq_getElem?_getD, List.getElem?_replicate, if_pos q]
    rfl
  · rw [getD_out (L := uptoW n) (by rw [upto_len]; omega), getD_out (by simp; omega)]
theorem upto_part {n p : Nat} (h : n % 64 ≠ 0) (hp : p = n / 64) : (List.replicate (p + 1) 18446744073709551615).set p (2 ^ (n % 64) - 1) = uptoW n := by
  have hl : (n + 63) / 64 = p + 1 := by omega
  refine ext_getD (by rw [upto_len]; simp; omega) fun j => ?_
  rw [getD_set _ _ _ _ (by simp)]
  by_cases q : j < (n + 63) / 64
  · rw [upto_getD n j q]
    by_cases e : j = p
    · rw [if_pos e, if_neg (by omega)]
    · rw [if_neg e, if_pos (by omega), List.getD_eq_getElem?_getD, List.getElem?_replicate, if_pos (by omega)]
      rfl
  · rw [if_neg (by omega), getD_out (L := uptoW n) (by rw [upto_len]; omega), getD_out (by simp; omega)]
theorem rep_at {n k : Nat} (h : k < n) (x : Nat) : (List.replicate n x).getD k 0 = x := by
  rw [List.getD_eq_getElem?_getD, List.getElem?_replicate, if_pos h]
  rfl
theorem ow_made {w : World} {B g n : Nat} (h : w.ownsRow B 100 1 (.slice (some ⟨g, 0, none⟩) n n) n ((List.replicate n (0 : Int)).map (Value.int .u64))) : Ow w B (.slice (some ⟨g, 0, none⟩) n n) (List.replicate n 0) := by
  unfold Ow
  rw [nat_rep, List.length_replicate]
  exact h
theorem pow_pred {r : Nat} (h : r < 64) : IntKind.u64.wrap (IntKind.u64.wrap (2 ^ r) - 1) = ((2 ^ r - 1 : Nat) : Int) := by
  have hp : 2 ^ r < 18446744073709551616 := Nat.pow_lt_pow_right (by omega) h
  have h1 := Nat.two_pow_pos r
  have e1 : IntKind.u64.wrap (2 ^ r) = ((2 ^ r : Nat) : Int) := by
    rw [IntKind.wrap_u64, show ((2 : Int) ^ r) = ((2 ^ r : Nat) : Int) from (Int.natCast_pow 2 r).symm]
    exact Int.emod_eq_of_lt (Int.natCast_nonneg _) (Int.ofNat_lt.2 hp)
  rw [e1, IntKind.wrap_u64]
  generalize 2 ^ r = m at *
  omega
set_option maxHeartbeats 4000000 in
theorem upto_own (k : Int) (w : World) (hk : I64 k) : Calls Tryd.prog 52 #[.int .i64 k] w (UpA w k) := by
  obtain ⟨i0, hi, hz0, hz1, hz2⟩ := info_parts info_w
  obtain ⟨k0, k1⟩ := hk
  obtain ⟨N, hN⟩ : ∃ N, N = cut k := ⟨_, rfl⟩
  have hN1 : N ≤ 65536 := by rw [hN]; unfold cut; omega
  obtain ⟨z, hz⟩ : ∃ z : Int, z = (N : Int) := ⟨_, rfl⟩
  have Hz := Lib.hid (show z = if k < 0 then 0 else if 65536 < k then 65536 else k by rw [hz, hN]; unfold cut; (repeat' split) <;> omega)
  obtain ⟨n, hn⟩ : ∃ n, n = (N + 63) / 64 := ⟨_, rfl⟩
  have e1 : (z + 64 - 1) / 64 = (n : Int) := by omega
  have z0 : 0 ≤ z := by omega
  have z1 : z ≤ 65536 := by omega
  have hn1 : n ≤ 1024 := by omega
  obtain ⟨r, hr⟩ : ∃ r, r = N % 64 := ⟨_, rfl⟩
  have e2 : z % 64 = (r : Int) := by omega
  have HN := Lib.hid hN
  have Hn := Lib.hid hn
  have Hr := Lib.hid hr
  clear hN hz hn hr hN1
  go_enter Tryd.func52, Tryd.ntmps52
  go_upto_region 1 with fail
  go_cut [0] (fun v wx => v = .int .i64 z ∧ wx = w.alloc (.cells #[.slice none 0 0] 54))
  case first =>
    all_goals (go_wp2_with fail)
    all_goals (go_meet; refine ⟨congrArg (Value.int .i64) ?_, rfl⟩; rw [Hz.out]; (repeat' split) <;> omega)
  case rest =>
    obtain ⟨rfl, rfl⟩ := hcut
    go_wp2_with (at_make; refine wpList_make_full _ rfl (.tmp 12) (.tmp 12) 52 rfl (w.heap.size + 1) 100 i0 _ 1 Tryd.underlying52 hi hz0 hz1 .i64 .i64 ((z + 64 - 1) / 64) ((z + 64 - 1) / 64) n rfl rfl e1 e1 (by rw [hz2]; omega) (by unfold maxLen; omega) (by simp) ?_; intro w3 hown hgrow; rw [Wd.made_zero] at hown)
    rw [World.size_alloc] at hown
    have hO0 := ow_made hown
    have x0 : Wd.Var w3 w.heap.size 54 (.slice none 0 0) := (hgrow.block w.heap.size (by simp) (by simp)).trans (Wd.Var.new w _ _)
    have hB0 : Below w.heap.size w w3 := ((Below.refl w.heap.size w).alloc (Nat.le_refl _) _).grown hgrow (by simp) (by simp)
    have hs3 := (World.ownsRow.lt hO0 (w.heap.size + 1) rfl).2
    have Hfl := Lib.hid (show (List.replicate n 18446744073709551615).length = (List.replicate n 0).length by simp)
    clear hown hgrow
    go_loopw [4, 16] (fun u j wr => ∃ q : Nat, j = .int .i64 q ∧ q ≤ n ∧ Ow wr (w.heap.size + 1) (.slice (some ⟨w.heap.size + 1, 0, none⟩) n n) (mix (List.replicate n 18446744073709551615) (List.replicate n 0) q) ∧ Below (w.heap.size + 1) w3 wr) (fun _ j _ => n - (intOf j).toNat)
    case atStart => exact ⟨0, rfl, Nat.zero_le _, by rw [mix_zero]; exact hO0, Below.refl _ _⟩
    case round =>
      obtain ⟨q, rfl, hk, hO, hB⟩ := hrel
      by_cases hlt : q < n
      · have hml : (mix (List.replicate n 18446744073709551615) (List.replicate n 0) q).length = n := by rw [mix_len Hfl.out]; simp
        obtain ⟨hc, hf⟩ := hO.cell hml.symm q (by omega)
        have hkI : (q : Int) < n := by omega
        have HO := Lib.hid hO
        have Hml := Lib.hid hml
        clear hml hO
        go_wp2_with fail
        go_roundw
        case rel =>
          refine ⟨q + 1, by go_num, by omega, ?_, hB.setCell (Nat.le_refl _) _⟩
          rw [← mix_set Hfl.out q (by simpa using hlt), rep_at hlt]
          exact HO.out.set Hml.out.symm q 18446744073709551615
        case measure => simp [intOf]; omega
      · have hkI : ¬ (q : Int) < n := by omega
        rw [mix_end Hfl.out (fun j h1 h2 => by simp at h2; omega)] at hO
        have y0 : Wd.Var wr w.heap.size 54 (.slice none 0 0) := (hB.block _ (by omega)).trans x0
        have hbn := hB0.trans (hB.mono (by omega))
        have Hb := Lib.hid hbn
        clear hB x0 hB0 hO0
        have c1 := y0.cell
        have f1 := y0.free
        by_cases hr0 : r = 0
        · subst hr0
          have hO2 := hO
          rw [show List.replicate n 18446744073709551615 = uptoW (cut k) by rw [Hn.out, ← HN.out]; exact upto_full Hr.out.symm] at hO2
          have HO := Lib.hid (hO2.other (b := w.heap.size) (u := .slice (some ⟨w.heap.size + 1, 0, none⟩) n n) (by omega))
          have c2 := (Wd.Var.set (u := .slice (some ⟨w.heap.size + 1, 0, none⟩) n n) y0).cell
          clear hO hO2
          go_wp2_with fail
          (try simp only [Exit.inBlock, Exit.then])
          refine bodyPost_ret (v := .agg #[.slice (some ⟨w.heap.size + 1, 0, none⟩) n n]) ?_ rfl ⟨_, _, _, rfl, ?_, ?_⟩
          · rw [res_cell1 rfl]; go_simp
          · exact HO.out.down (by omega)
          · exact Hb.out.setCell (Nat.le_refl _) _
        · obtain ⟨p, hp⟩ : ∃ p, p = N / 64 := ⟨_, rfl⟩
          have hnp : n = p + 1 := by have := Hn.out; have := Hr.out; omega
          have e3 : (n : Int) - 1 = (p : Int) := by omega
          have hr1 : (0 : Int) < (r : Int) := by omega
          have hr2 : r < 64 := by have := Hr.out; omega
          have hp0 : (0 : Int) ≤ (p : Int) := by omega
          have hpn : (p : Int) < (n : Int) := by omega
          obtain ⟨hc, hf⟩ := hO.cell (by simp) p (by simp; omega)
          have HO := Lib.hid hO
          have Hup := Lib.hid (show (List.replicate n 18446744073709551615).set p (2 ^ r - 1) = uptoW (cut k) by rw [hnp, Hr.out, ← HN.out]; exact upto_part (by have := Hr.out; omega) hp)
          clear hp hnp hO
          go_wp2_with fail
          have key : IntKind.u64.wrap (IntKind.u64.wrap (2 ^ r) - 1) = ((2 ^ r - 1 : Nat) : Int) := pow_pred hr2
          rw [key]
          have hO3 := HO.out.set (by simp) p (2 ^ r - 1)
          rw [Hup.out] at hO3
          have z0 := y0.other (a := ⟨w.heap.size + 1, p, none⟩) (u := .int .u64 ((2 ^ r - 1 : Nat) : Int)) (by show w.heap.size ≠ w.heap.size + 1; omega)
          have c2 := (Wd.Var.set (u := .slice (some ⟨w.heap.size + 1, 0, none⟩) n n) z0).cell
          have hb2 := Hb.out.setCell (p := ⟨w.heap.size + 1, p, none⟩) (by show w.heap.size ≤ w.heap.size + 1; omega) (.int .u64 ((2 ^ r - 1 : Nat) : Int))
          generalize wr.setCell ⟨w.heap.size + 1, p, none⟩ (.int .u64 ((2 ^ r - 1 : Nat) : Int)) = w5 at *
          (try simp only [Exit.inBlock, Exit.then])
          refine bodyPost_ret (v := .agg #[.slice (some ⟨w.heap.size + 1, 0, none⟩) n n]) ?_ rfl ⟨_, _, _, rfl, ?_, ?_⟩
          · rw [res_cell1 rfl]; go_simp
          · exact (hO3.other (by omega)).down (by omega)
          · exact hb2.setCell (Nat.le_refl _) _
theorem upto_any (k : Int) (w : World) (hk : I64 k) : Calls Tryd.prog 52 #[.int .i64 k] w (Gv St w (uptoL k)) :=
  (upto_own k w hk).mono fun e w' ⟨A, n, c, he, hO, hB⟩ => ⟨A, n, c, he, by
    have hc : cut k ≤ 65536 := by unfold cut; omega
    rw [← upto_lst hc rfl]
    exact st_at hO (upto_wo hc) (upto_tr _), hB⟩
end Bw
end Go.Proofs.YtpappcmgnnmbeaaDoor
