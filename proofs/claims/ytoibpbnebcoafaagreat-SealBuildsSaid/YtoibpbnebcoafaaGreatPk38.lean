/- slices.Values, AppendSeq, Collect and Sorted at a row of integers. A row of values that is filled place by place. Package column: Values, At, Ends. -/
import Derived.RangeFuncBox
import Derived.RangeFuncNested
import Derived.RangeFuncLeaves
import Derived.Shelf.Abstract
import Derived.Shelf.AbstractIn
import Derived.WalkKit
import Derived.OwnWalkIn
import Derived.TacticsInMore
import Derived.Maps.AppendAt
import Derived.LoopNIn
import Derived.LoopIn
import Derived.Test.YtoibpbnebcoafaaGreatPk37
import Derived.Test.YtoibpbnebcoafaaGreatPk02
import Derived.Test.YtoibpbnebcoafaaGreatPk10
import Derived.Test.YtoibpbnebcoafaaGreatPk28
import Derived.Test.YtoibpbnebcoafaaGreatPk30
namespace Go.Proofs.YtoibpbnebcoafaaGreat
set_option maxRecDepth 100000
open Go.RowKit Go.Maps Go.Sort Go.Shelf
attribute [local go_sem] Oper.semAt_some
namespace Se
set_option maxHeartbeats 2000000 in
/-- The iterator of slices.Values: the numbers come in their order, for every body that lets what was there lie. -/
theorem values1_in {w : World} {A : Option Addr} {m c : Nat} {zs : List Int} (hS : Wd.Sl w .i64 A m c zs) (n : Nat) (hn : 1 ≤ n) (l B : Nat) (J Jx : List Int → World → Prop)
    (hY : ∀ pre x W, J pre W → pre.length < zs.length → YieldAt Fence.wide (n - 1) Tryz.prog l #[.int .i64 x] W fun e W' =>
      (e = .returned (.bool true) ∧ J (pre ++ [x]) W' ∧ Below w.heap.size W W') ∨ (e = .returned (.bool false) ∧ Jx (pre ++ [x]) W'))
    (W : World) (hW : Below w.heap.size w W) (hB : W.cell? ⟨B, 0, none⟩ = some (.slice A m c)) (h0 : J [] W) :
    CallsIn Fence.wide n Tryz.prog 105 #[.func (.yield l) #[] #[], .pointer (some ⟨B, 0, none⟩)] W fun e W' => (∃ v, e = .returned v) ∧
      ((∃ ys, ys = zs ∧ J ys W') ∨ (∃ pre, pre <+: zs ∧ Jx pre W')) := by
  have hlen := hS.len
  have hcap := hS.cap
  have hmax := hS.max
  unfold maxLen at hmax
  refine callsIn_of_wp Tryz.func105 rfl trivial ?_ rfl
  simp only [Tryz.ntmps105, List.size_toArray, List.length_cons, List.length_nil, Nat.reduceAdd, Nat.reduceSub, Array.replicate_succ, Array.replicate_zero, List.push_toArray, List.append_toArray, List.nil_append, List.cons_append]
  gi_wp2
  gi_loopw [7] (fun i wr => ∃ k : Nat, k ≤ m ∧ i = .int .i64 k ∧ J (zs.take k) wr ∧ Below w.heap.size w wr) (fun i _ => m - (intOf i).toNat)
  case atStart => exact ⟨0, Nat.zero_le _, rfl, h0, hW⟩
  case round =>
    obtain ⟨k, hk, rfl, hJs, hnx⟩ := hrel
    by_cases hlt : k < m
    · obtain ⟨b, f, hA, hb, hx⟩ := (hS.below hnx).rd k (by omega)
      subst hA
      obtain ⟨fn, tmps, assign, body, hy, hR⟩ := hY _ (zs.getD k 0) wr hJs (by rw [List.length_take]; omega)
      have hs : zs.take k ++ [zs.getD k 0] = zs.take (k + 1) := by
        rw [List.getD_eq_getElem?_getD, List.getElem?_eq_getElem (by omega), List.take_add_one, List.getElem?_eq_getElem (by omega)]
        rfl
      rw [hs] at hR
      generalize zs.getD k 0 = z at *
      gi_wp2
      refine hR.mono ?_
      rintro e W3 (⟨rfl, hJ3, hk3⟩ | ⟨rfl, hJx3⟩)
      · gi_wp2
        go_roundw
        case rel => exact ⟨k + 1, by omega, by simp, hJ3, hnx.trans hk3⟩
        case measure => simp [intOf]; omega
      · gi_wp2
        refine bodyPost_ret (results_none rfl _ _ _) rfl ?_
        exact ⟨⟨_, rfl⟩, .inr ⟨_, List.take_prefix _ _, hJx3⟩⟩
    · obtain rfl : k = m := by omega
      gi_wp2
      go_end0
      exact ⟨⟨_, rfl⟩, .inl ⟨_, by rw [hlen]; exact List.take_length, hJs⟩⟩
theorem values_stops {w : World} {A : Option Addr} {m c : Nat} {zs : List Int} (hS : Wd.Sl w .i64 A m c zs) (n : Nat) (hn : 1 ≤ n) (B : Nat) (w1 : World) (hB : B < w1.heap.size) (hw : Below w.heap.size w w1) (hc : w1.cell? ⟨B, 0, none⟩ = some (.slice A m c)) :
    SeqStopsK Fence.wide n Tryz.prog 105 #[.pointer (some ⟨B, 0, none⟩)] (fun x : Int => #[Value.int .i64 x]) (Below w.heap.size) (fun ys => ys = zs) (fun pre => pre <+: zs) zs.length w1 := fun l J Jx W hW _ _ hY h0 =>
  values1_in hS n hn l B J Jx hY W (hw.trans (hW.mono hw.size)) ((hW.cell (p := ⟨B, 0, none⟩) hB).trans hc) h0
theorem values_in (n : Nat) (A : Option Addr) (m c : Nat) (w : World) :
    CallsIn Fence.wide n Tryz.prog 76 #[.slice A m c] w fun e w' => e = .returned (.func (.func 105) #[] #[.pointer (some ⟨w.heap.size, 0, none⟩)]) ∧ w' = w.alloc (.cells #[.slice A m c] 25) := by
  refine callsIn_of_wp Tryz.func76 rfl trivial ?_ rfl
  simp only [Tryz.ntmps76, List.size_toArray, List.length_cons, List.length_nil, Nat.reduceAdd, Nat.reduceSub, Array.replicate_succ, Array.replicate_zero, List.push_toArray, List.append_toArray, List.nil_append, List.cons_append]
  gi_wp2
  go_ret
  exact ⟨rfl, rfl⟩
theorem info_int : (Tryz.prog.info? 3).map (fun i => (i.zero, i.size, i.bytes)) = some (some (.int .i64 0), 1, 8) := by kernel_rfl
set_option maxHeartbeats 4000000 in
/-- slices.AppendSeq(nil, slices.Values(s)): a row of its own of the same numbers. -/
theorem append_in {w0 : World} {A : Option Addr} {m c : Nat} {zs : List Int} (hS : Wd.Sl w0 .i64 A m c zs) (hm : m ≤ 1000000) (n : Nat) (hn : 3 ≤ n) (B : Nat) (w : World) (hB : B < w.heap.size) (hw : Below w0.heap.size w0 w) (hc : w.cell? ⟨B, 0, none⟩ = some (.slice A m c)) :
    CallsIn Fence.wide n Tryz.prog 131 #[.slice none 0 0, .func (.func 105) #[] #[.pointer (some ⟨B, 0, none⟩)]] w fun e W' => ∃ v, e = .returned v ∧ W'.ownsRow w.heap.size 3 1 v zs.length (zs.map (Value.int .i64)) ∧ Below w.heap.size w W' := by
  have h1 : 1 ≤ n := by omega
  have hlen := hS.len
  obtain ⟨i0, hi, hz0, hz1, hz2⟩ := info_parts info_int
  have hu := Tryz.underlying25
  refine callsIn_of_wp_marks Tryz.func131 rfl trivial ?_ rfl
  simp only [Tryz.ntmps131, List.size_toArray, List.length_cons, List.length_nil, Nat.reduceAdd, Nat.reduceSub, Array.replicate_succ, Array.replicate_zero, List.push_toArray, List.append_toArray, List.nil_append, List.cons_append]
  gi_wp2
  have bO := Boxed.new w 25 (.slice none 0 0)
  have hB0 : Below w.heap.size w (w.alloc (.cells #[.slice none 0 0] 25)) := (Below.refl _ w).alloc (Nat.le_refl _) _
  refine wpIn_rangeFunc_ownG rfl h1 (gf := 105) (lb := #[.pointer (some ⟨B, 0, none⟩)]) rfl trivial (enters_of Tryz.func105 (by kernel_rfl) rfl)
    (values_stops hS (n - 1) (by omega) B _ (by simp; omega) (hw.trans (hB0.mono hw.size)) ((hB0.cell (p := ⟨B, 0, none⟩) hB).trans hc)) belowK_t (belowK_b (by have := hw.size; simp; omega)) (Below.refl _ _) (fun _ => rfl)
    (fun pre W => (∃ v, Boxed W w.heap.size 25 v ∧ W.ownsRow w.heap.size 3 1 v pre.length (pre.map (Value.int .i64)) ∧ (v = .slice none 0 0 ↔ pre = [])) ∧ Below w.heap.size w W)
    (fun _ _ _ => False)
    (OwnFrom.and (Own.from (holdsRow_own w.heap.size w.heap.size 25 3 1 (fun pre => pre.length) (fun pre => pre.map (Value.int .i64)) (fun pre v => v = .slice none 0 0 ↔ pre = [])) _) (ownFrom_below (Nat.le_refl _) (by simp)))
    (fun _ _ _ _ _ hs _ _ => hs)
    ⟨⟨_, bO, World.ownsRow_nil _ _ _ _, by simp⟩, hB0⟩
    (fun x => { tmps := #[.slice none 0 0, .func (.func 105) #[] #[.pointer (some ⟨B, 0, none⟩)], .pointer (some ⟨w.heap.size, 0, none⟩), undef, .slice none 0 0, .int .i64 x, .func (.func 105) #[] #[.pointer (some ⟨B, 0, none⟩)], .int .i64 x, undef, undef, undef, undef, undef], defers := [] }) ?assign ?body ?done ?stop
  case assign =>
    intro l x W K hK
    gi_wp2
    exact hK
  case body =>
    rintro l pre x W ⟨⟨v, hv, hrow, hnil⟩, hB⟩ hlt
    have hc := hv.cell
    gi_wp2_with (gi_at_builtin; refine wpListIn_append_own _ rfl _ _ 25 rfl w.heap.size 3 i0 (.int .i64 0) 1 8 hu hi hz0 hz1 hz2 rfl (by decide) _ _ _ rfl (hrow.alloc _) ⟨W.heap.size, 0, none⟩ 1 1 [.int .i64 x] rfl rfl (cell_one_new _ _ _) (by simp [Value.oneCell']) (by unfold maxLen; omega) (by omega) (by have := hB.size; simp; omega) ?_; intro v' w1 hown' hgrow _; obtain ⟨g', cap', rfl⟩ := ownsRow_succ hown'; obtain ⟨hv1, hv2, hr2, hk2, hb2⟩ := hv.appended (by decide) hrow hB.size (Nat.le_refl _) hown' hgrow; have hc1 := hv1.cell; have hf1 := hv1.frozen)
    exact ⟨hk2.from _, hb2.mono (by have := hw.size; omega), ⟨_, hv2, by simpa using hr2, by simp⟩, hB.trans hb2⟩
  case done =>
    rintro D ys W hD rfl ⟨⟨v, hv, hrow, hnil⟩, hB⟩ hK
    have hc := hv.cell
    gi_wp2
    refine ⟨by simp, .inl ⟨_, _, rfl, run_takeDeferred hK, ?_⟩⟩
    exact ⟨_, results_tmp rfl _ _ _, v, rfl, ownsRow_putObj hrow _ hK rfl, hB.trans (belowK_b (w := w) (Nat.le_refl _) W D _ _ (by simp at hD; omega) hK rfl rfl)⟩
  case stop =>
    rintro D c pre W _ _ h _
    exact h.elim
set_option maxHeartbeats 1000000 in
theorem collect_in {w0 : World} {A : Option Addr} {m c : Nat} {zs : List Int} (hS : Wd.Sl w0 .i64 A m c zs) (hm : m ≤ 1000000) (n : Nat) (hn : 4 ≤ n) (B : Nat) (w : World) (hB : B < w.heap.size) (hw : Below w0.heap.size w0 w) (hc : w.cell? ⟨B, 0, none⟩ = some (.slice A m c)) :
    CallsIn Fence.wide n Tryz.prog 103 #[.func (.func 105) #[] #[.pointer (some ⟨B, 0, none⟩)]] w fun e W' => ∃ v, e = .returned v ∧ W'.ownsRow w.heap.size 3 1 v zs.length (zs.map (Value.int .i64)) ∧ Below w.heap.size w W' := by
  have h1 : 1 ≤ n := by omega
  have Ca := append_in hS hm (n - 1) (by omega) B w hB hw hc
  have hf : Fence.wide.fn 131 := trivial
  refine callsIn_of_wp Tryz.func103 rfl trivial ?_ rfl
  simp only [Tryz.ntmps103, List.size_toArray, List.length_cons, List.length_nil, Nat.reduceAdd, Nat.reduceSub, Array.replicate_succ, Array.replicate_zero, List.push_toArray, List.append_toArray, List.nil_append, List.cons_append]
  gi_wp2_with (gi_at_call 131; refine Ca.mono ?_; rintro e w' ⟨v, rfl, hrow, hb⟩)
  go_ret
  exact ⟨v, rfl, hrow, hb⟩
set_option maxHeartbeats 1000000 in
/-- slices.Sorted(slices.Values(s)): a row of its own of the numbers in their order. -/
theorem sorted_in {w0 : World} {A : Option Addr} {m c : Nat} {zs : List Int} (hS : Wd.Sl w0 .i64 A m c zs) (hm : m ≤ 1000000) (n : Nat) (hn : 5 ≤ n) (B : Nat) (w : World) (hB : B < w.heap.size) (hw : Below w0.heap.size w0 w) (hc : w.cell? ⟨B, 0, none⟩ = some (.slice A m c)) :
    CallsIn Fence.wide n Tryz.prog 75 #[.func (.func 105) #[] #[.pointer (some ⟨B, 0, none⟩)]] w (Wd.Out w .i64 (zs.mergeSort fun x y => decide (x ≤ y))) := by
  have h1 : 1 ≤ n := by omega
  have hlen := hS.len
  have Cc := collect_in hS hm (n - 1) (by omega) B w hB hw hc
  have hf : Fence.wide.fn 103 := trivial
  have hf2 : Fence.wide.fn 104 := trivial
  refine callsIn_of_wp Tryz.func75 rfl trivial ?_ rfl
  simp only [Tryz.ntmps75, List.size_toArray, List.length_cons, List.length_nil, Nat.reduceAdd, Nat.reduceSub, Array.replicate_succ, Array.replicate_zero, List.push_toArray, List.append_toArray, List.nil_append, List.cons_append]
  gi_wp2_with (gi_at_call 103; refine Cc.mono ?_; rintro e W ⟨v, rfl, hrow, hb⟩)
  rcases hrow.2 with ⟨rfl, hz⟩ | ⟨gb, cap, cur, rfl, hbase, hgb, r1, r2, r3, r4⟩
  · have hss : zs = [] := List.eq_nil_of_length_eq_zero hz
    subst hss
    gi_wp2_with (gi_at_call 104; refine (callsIn_wide.2 (AnyM.slices_Sort_int_none Tryz.sortI none 0 W)).mono ?_; rintro e w' ⟨rfl, rfl⟩)
    go_ret
    exact ⟨none, 0, 0, rfl, by rw [List.mergeSort_nil]; exact Wd.Sl.none_ _ _, hb⟩
  · have hH : Holds (Value.int .i64) W gb 0 zs.toArray := holds_of_block_i hgb (by simpa using r4)
    have hgl : gb < W.heap.size := (Array.getElem?_eq_some_iff.1 hgb).1
    have cS := AnyM.slices_Sort_int Tryz.sortI gb 0 cap zs W hH hgl (by omega)
    change Calls _ 104 _ _ _ at cS
    gi_wp2_with (gi_at_call 104; refine (callsIn_wide.2 cS).mono ?_; rintro e w' ⟨rfl, nn, os, rfl⟩)
    go_ret
    exact Wd.Out.of_own (ownsRow_sorted_i (ss := zs) (by simp) hbase hgb r1 r2 r3) (hb.grown (grownBy_sorted_i _) hb.size (fun j hj => by cases hj; exact hbase))
end Se
end Go.Proofs.YtoibpbnebcoafaaGreat
namespace Go.Proofs.YtoibpbnebcoafaaGreat
set_option maxRecDepth 20000
open Go.RowKit
namespace Cx
open Va (Vl null)
/-- The first k values, and nothing behind. -/
def fillV (l : List Vl) (k : Nat) : List Vl := l.take k ++ List.replicate (l.length - k) null
theorem fillV_zero (l : List Vl) : fillV l 0 = List.replicate l.length null := by simp [fillV]
theorem fillV_all (l : List Vl) : fillV l l.length = l := by simp [fillV]
theorem fillV_len (l : List Vl) (k : Nat) : (fillV l k).length = l.length := by simp [fillV]; omega
theorem fillV_set (l : List Vl) (k : Nat) (hk : k < l.length) : (fillV l k).set k (l.getD k default) = fillV l (k + 1) := by
  refine List.ext_getElem (by simp [fillV_len]) fun i h1 h2 => ?_
  simp only [fillV_len, List.length_set] at h1 h2
  rw [List.getElem_set]
  simp only [fillV, List.getElem_append, List.length_take, List.getElem_take, List.getElem_replicate]
  by_cases e : k = i
  · subst e
    rw [if_pos rfl, dif_pos (by omega)]
    simp [List.getD, hk]
  · rw [if_neg e]
    by_cases q : i < min k l.length
    · rw [dif_pos q, dif_pos (by omega)]
    · rw [dif_neg q, dif_neg (by omega)]
end Cx
end Go.Proofs.YtoibpbnebcoafaaGreat
namespace Go.Proofs.YtoibpbnebcoafaaGreat
set_option maxRecDepth 20000
open Go.RowKit
namespace Cx
open Va (Vl May ord null)
open Sc (tr tr_yes tr_no tr_iff)
open Co
open Bi (I64)
theorem valL {C : Col} {A : Option Addr} {n c : Nat} {w : World} (h : Wd.Vs w A n c C.dict) : ∀ j, j < (values C).length → Wd.V1 ((values C).getD j default) := by
  intro j hj
  rw [values_len] at hj
  have hx : (nums C).getD j 0 ∈ nums C := by
    rw [List.getD_eq_getElem?_getD, List.getElem?_eq_getElem hj]
    exact List.getElem_mem hj
  obtain ⟨_, h0, h1⟩ := nums_in hx
  have e : (values C).getD j default = C.dict.getD ((nums C).getD j 0).toNat default := by
    unfold values
    rw [List.getD_eq_getElem?_getD, List.getElem?_map, List.getElem?_eq_getElem hj, Option.map_some, Option.getD_some]
    rw [List.getD_eq_getElem?_getD (l := nums C), List.getElem?_eq_getElem hj, Option.getD_some]
  rw [e]
  obtain ⟨_, _, _, _, _, h2⟩ := h.at_ _ (show ((nums C).getD j 0).toNat < C.dict.length by omega)
  exact h2
/-- A row of values of the call's own. -/
def OutVo (w : World) (l : List Vl) (e : Ending) (w' : World) : Prop :=
  ∃ v, e = .returned v ∧ w'.ownsRow w.heap.size 56 4 v l.length (Wd.flatV l) ∧ (∀ j, j < l.length → Wd.V1 (l.getD j default)) ∧ Below w.heap.size w w'
theorem own_row {w : World} {base g n : Nat} {l : List Vl} (h : Wd.RowV w g l) (hb : base ≤ g) (hn : n = l.length) (hm : n ≤ maxLen) : w.ownsRow base 56 4 (.slice (some ⟨g, 0, none⟩) n n) l.length (Wd.flatV l) := by
  subst hn
  exact ⟨(Wd.flatV_len l), .inr ⟨g, _, _, rfl, hb, h, Nat.le_refl _, hm, by simp [Wd.flatV_len], by rw [List.take_of_length_le (by simp [Wd.flatV_len])]⟩⟩
set_option maxHeartbeats 8000000 in
theorem values_own (A : Option Addr) (n c : Nat) (B : Option Addr) (m d : Nat) (C : Col) (w : World) (h : Cl w A n c B m d C) (hn : n ≤ 1000) (hm : m ≤ 1000000) :
    Calls Tryz.prog 70 #[.agg #[.int .i64 C.n, .slice A n c, .slice B m d]] w (OutVo w (values C)) := by
  obtain ⟨j0, hj, gz0, gz1, gz2⟩ := info_parts Wd.info_vl
  have hb0 := (Below.refl w.heap.size w).alloc (Nat.le_refl _) (.cells #[.int .i64 C.n, .slice A n c, .slice B m d] 70)
  have x0 := Cb.new w C.n A n c B m d
  have C1 := Lib.hid (unpack_any A n c B m d C _ (h.below hb0) hn hm)
  have hcap := h.dict.cap
  have hmx := h.dict.max
  unfold maxLen at hmx
  have HD := Lib.hid h.dict
  have Hn := Lib.hid h.dict.len
  have Hb0 := Lib.hid hb0
  have H1 := Lib.hid (valL h.dict)
  obtain ⟨L, hL⟩ : ∃ L, L = nums C := ⟨_, rfl⟩
  obtain ⟨T, hT⟩ : ∃ T, T = values C := ⟨_, rfl⟩
  have Hin := Lib.hid (show ∀ x ∈ L, 0 ≤ x ∧ x < (n : Int) from fun x hx => by
    rw [hL] at hx
    have := nums_in hx
    rw [h.dict.len]
    exact this.2)
  have Hll := Lib.hid (show L.length ≤ 4096 by rw [hL]; exact nums_4096 C)
  have HTl := Lib.hid (show T.length = L.length by rw [hT, hL]; exact values_len C)
  have HTk := Lib.hid (show ∀ k, k < L.length → T.getD k default = C.dict.getD (L.getD k 0).toNat default from fun k hk => by
    rw [hT]
    rw [hL] at hk ⊢
    unfold values
    rw [List.getD_eq_getElem?_getD, List.getElem?_map, List.getElem?_eq_getElem hk, Option.map_some, Option.getD_some]
    rw [List.getD_eq_getElem?_getD (l := nums C), List.getElem?_eq_getElem hk, Option.getD_some])
  have HT0 := Lib.hid (show ¬ Valid C → T = [] from fun q => by rw [hT]; exact values_no q)
  rw [← hL] at C1
  rw [← hT] at H1 ⊢
  have h4 := Hll.out
  obtain ⟨N, hN⟩ : ∃ N, N = C.n := ⟨_, rfl⟩
  rw [← hN] at x0 C1 Hb0 ⊢
  obtain ⟨r, hr⟩ : ∃ r, r = tr (Valid C) := ⟨_, rfl⟩
  rw [← hr] at C1
  have Hr := Lib.hid hr
  clear h hb0 hL hT hN hr
  have c0 := x0.c0
  have c1 := x0.c1
  have c2 := x0.c2
  go_enter Tryz.func70, Tryz.ntmps70
  go_wp2_with fail
  refine C1.out.mono ?_
  rintro e w1 ⟨P, p, q, rfl, hSl, hB1⟩
  have y0 := x0.below (by simp) hB1
  have hb1 := Hb0.out.trans (hB1.mono (by simp))
  have hlt1 := y0.lt
  have hpl := hSl.len
  have hpc := hSl.cap
  have hpm := hSl.max
  unfold maxLen at hpm
  have hp1 : p ≤ 4096 := by omega
  have Hpl := Lib.hid hpl
  have HSl := Lib.hid hSl
  have HD1 := Lib.hid (HD.out.below hb1)
  have Hb1 := Lib.hid hb1
  have Hz1 := Lib.hid hb1.size
  clear c0 c1 c2 x0 hB1 C1 hpl hSl hb1 h4 HD
  cases r with
  | false =>
    have e0 := HT0.out (fun q => by have := Hr.out; rw [tr_yes q] at this; cases this)
    have HE := Lib.hid e0
    clear e0
    go_wp2_with fail
    go_ret
    exact ⟨_, rfl, by rw [HE.out]; exact World.ownsRow_nil _ _ _ _, by rw [HE.out]; exact fun j hj => (by cases hj), Hb1.out⟩
  | true =>
  go_wp2_with (at_make; refine wpList_make_full _ rfl (.tmp 16) (.tmp 16) 45 rfl w1.heap.size 56 j0 _ 4 Tryz.underlying45 hj gz0 gz1 .i64 .i64 (p : Int) (p : Int) p rfl rfl rfl rfl (by rw [gz2]; omega) (by unfold maxLen; omega) (Nat.le_refl _) ?_; intro w3 hown hgrow; rw [Wd.made_null] at hown)
  obtain ⟨hR0, -, -⟩ := Wd.RowV.of_own hown
  have hB3 : Below w1.heap.size w1 w3 := (Below.refl _ _).grown hgrow (Nat.le_refl _) (by simp)
  have hR1 : Wd.RowV w3 w1.heap.size (fillV T 0) := by rw [fillV_zero, HTl.out, ← Hpl.out]; exact hR0
  have I0 := Lib.hid (And.intro hR1 hB3)
  clear hown hgrow hB3 hR0 hR1
  go_loopw [20] (fun j wr => ∃ k : Nat, j = .int .i64 k ∧ k ≤ p ∧ Wd.RowV wr w1.heap.size (fillV T k) ∧ Below w1.heap.size w1 wr) (fun j _ => p - (intOf j).toNat)
  case atStart => exact ⟨0, rfl, Nat.zero_le _, I0.out.1, I0.out.2⟩
  case round =>
    obtain ⟨k, rfl, hk, hR, hB⟩ := hrel
    by_cases hkp : k < p
    · have hkI : (k : Int) < p := by omega
      have hk0 : (0 : Int) ≤ (k : Int) := by omega
      have hkL : k < L.length := by rw [← Hpl.out]; exact hkp
      obtain ⟨b, o, hP, hbl, hc⟩ := (HSl.out.below hB).rd k hkL
      subst hP
      obtain ⟨x, hx⟩ : ∃ x, x = L.getD k 0 := ⟨_, rfl⟩
      have hxm : x ∈ L := by
        rw [hx, List.getD_eq_getElem?_getD, List.getElem?_eq_getElem hkL]
        exact List.getElem_mem hkL
      obtain ⟨hx0, hxn⟩ := Hin.out x hxm
      have hT := HTk.out k hkL
      rw [← hx] at hc hT
      obtain ⟨z, hz⟩ : ∃ z : Nat, x = (z : Int) := ⟨x.toNat, by omega⟩
      subst hz
      rw [Int.toNat_natCast] at hT
      have hzn : z < C.dict.length := by rw [← Hn.out]; omega
      have HDr := HD1.out.below hB
      obtain ⟨e, f, hA, heB, d0, d1, d2, d3, hv1⟩ := HDr.cells (j := z) hzn rfl
      subst hA
      obtain ⟨y, hy⟩ : ∃ y, y = C.dict.getD z default := ⟨_, rfl⟩
      rw [← hy] at d0 d1 d2 d3 hT
      obtain ⟨vk, vi, vs, vb⟩ := y
      have HT := Lib.hid hT
      have hc1 := (y0.below hlt1 hB).c1
      have hkT : k < (fillV T k).length := by rw [fillV_len, HTl.out]; exact hkL
      obtain ⟨u, ⟨u0, u1, u2, u3⟩, v0, v1, v2, v3⟩ := hR.four hkT
      have HR := Lib.hid hR
      have hzl := hR.lt
      have HB := Lib.hid hB
      have HkT := Lib.hid hkT
      have HkL := Lib.hid hkL
      clear hx hxm hT hzn hy HDr hv1 hR hB hkT hkL
      go_wp2_with fail
      go_roundw
      case rel =>
        refine ⟨k + 1, by go_num, by omega, ?_, ?_⟩
        · have e5 := fillV_set T k (by rw [HTl.out]; exact HkL.out)
          rw [HT.out] at e5
          rw [← e5]
          exact HR.out.set k HkT.out ⟨vk, vi, vs, vb⟩
        · exact (((HB.out.setCell (Nat.le_refl _) _).setCell (Nat.le_refl _) _).setCell (Nat.le_refl _) _).setCell (Nat.le_refl _) _
      case measure => simp [intOf]; omega
    · have hkI : ¬ (k : Int) < p := by omega
      obtain rfl : k = p := by omega
      have e2 : fillV T k = T := by rw [Hpl.out, ← HTl.out]; exact fillV_all T
      rw [e2] at hR
      have HR := Lib.hid hR
      have HB := Lib.hid (Hb1.out.trans (hB.mono Hb1.out.size))
      have HL := Lib.hid (show k = T.length by rw [HTl.out]; exact Hpl.out)
      clear hR hB e2
      go_wp2_with fail
      go_ret
      exact ⟨_, rfl, own_row HR.out Hz1.out HL.out (by unfold maxLen; omega), H1.out, HB.out⟩
theorem values_any (A : Option Addr) (n c : Nat) (B : Option Addr) (m d : Nat) (C : Col) (w : World) (h : Cl w A n c B m d C) (hn : n ≤ 1000) (hm : m ≤ 1000000) :
    Calls Tryz.prog 70 #[.agg #[.int .i64 C.n, .slice A n c, .slice B m d]] w (OutV w (values C)) :=
  (values_own A n c B m d C w h hn hm).mono fun e w' ⟨v, he, ho, h1, hb⟩ => by
    obtain ⟨A', n', c', rfl, hV⟩ := Wd.Vs.of_own ho h1
    exact ⟨A', n', c', he, hV, hb⟩
set_option maxHeartbeats 8000000 in
theorem at_any (A : Option Addr) (n c : Nat) (B : Option Addr) (m d : Nat) (C : Col) (i : Int) (w : World) (h : Cl w A n c B m d C) (hn : n ≤ 1000) (hm : m ≤ 1000000) (_hi : I64 i) :
    Calls Tryz.prog 44 #[.agg #[.int .i64 C.n, .slice A n c, .slice B m d], .int .i64 i] w fun e w' => ∃ k x s b r, (⟨k, x, s, b⟩, r) = atv C i ∧ e = .returned (.tuple #[.agg #[.int .i64 k, .int .i64 x, .string s, .bool b], .bool r]) ∧ Below w.heap.size w w' := by
  have hb0 := (Below.refl w.heap.size w).alloc (Nat.le_refl _) (.cells #[.int .i64 C.n, .slice A n c, .slice B m d] 70)
  have hb1 := hb0.alloc hb0.size (.cells #[.int .i64 0, .int .i64 0, .string ⟨#[]⟩, .bool false] 56)
  have x0 : Cb ((w.alloc (.cells #[.int .i64 C.n, .slice A n c, .slice B m d] 70)).alloc (.cells #[.int .i64 0, .int .i64 0, .string ⟨#[]⟩, .bool false] 56)) w.heap.size C.n A n c B m d := ⟨(Cb.new w C.n A n c B m d).bx.alloc _⟩
  have v0 : Vc.Vb ((w.alloc (.cells #[.int .i64 C.n, .slice A n c, .slice B m d] 70)).alloc (.cells #[.int .i64 0, .int .i64 0, .string ⟨#[]⟩, .bool false] 56)) (w.heap.size + 1) 0 0 ⟨#[]⟩ false := by
    have := Wd.Bx.new (w.alloc (.cells #[.int .i64 C.n, .slice A n c, .slice B m d] 70)) 56 #[.int .i64 0, .int .i64 0, .string ⟨#[]⟩, .bool false]
    rwa [World.size_alloc] at this
  have C1 := Lib.hid (unpack_any A n c B m d C _ (h.below hb1) hn hm)
  have hcap := h.dict.cap
  have hmx := h.dict.max
  unfold maxLen at hmx
  have HD := Lib.hid h.dict
  have Hn := Lib.hid h.dict.len
  have Hb1 := Lib.hid hb1
  obtain ⟨L, hL⟩ : ∃ L, L = nums C := ⟨_, rfl⟩
  have Hin := Lib.hid (show ∀ x ∈ L, 0 ≤ x ∧ x < (n : Int) from fun x hx => by
    rw [hL] at hx
    have := nums_in hx
    rw [h.dict.len]
    exact this.2)
  have Hll := Lib.hid (show L.length ≤ 4096 by rw [hL]; exact nums_4096 C)
  have Ha := Lib.hid (show ∀ k : Nat, k < L.length → atv C (k : Int) = (C.dict.getD (L.getD k 0).toNat default, true) from fun k hk => by
    rw [hL] at hk ⊢
    unfold atv
    rw [if_pos ⟨by omega, by omega⟩, Int.toNat_natCast]
    unfold values
    rw [List.getD_eq_getElem?_getD, List.getElem?_map, List.getElem?_eq_getElem hk, Option.map_some, Option.getD_some]
    rw [List.getD_eq_getElem?_getD (l := nums C), List.getElem?_eq_getElem hk, Option.getD_some])
  have Hz := Lib.hid (show ¬ (0 ≤ i ∧ i < (L.length : Int)) → atv C i = (null, false) from fun q => by rw [hL] at q; exact if_neg q)
  have Hz0 := Lib.hid (show ¬ Valid C → L = [] from fun q => by rw [hL]; exact nums_no q)
  rw [← hL] at C1
  have h4 := Hll.out
  obtain ⟨N, hN⟩ : ∃ N, N = C.n := ⟨_, rfl⟩
  rw [← hN] at x0 v0 C1 Hb1 ⊢
  obtain ⟨r, hr⟩ : ∃ r, r = tr (Valid C) := ⟨_, rfl⟩
  rw [← hr] at C1
  have Hr := Lib.hid hr
  obtain ⟨wa, hwa⟩ : ∃ wa, wa = (w.alloc (.cells #[.int .i64 N, .slice A n c, .slice B m d] 70)).alloc (.cells #[.int .i64 0, .int .i64 0, .string ⟨#[]⟩, .bool false] 56) := ⟨_, rfl⟩
  have Hwa := Lib.hid hwa
  rw [← hwa] at x0 v0 C1 Hb1
  have c0 := x0.c0
  have c1 := x0.c1
  have c2 := x0.c2
  clear h hb0 hb1 hL hN hr hwa
  go_enter Tryz.func44, Tryz.ntmps44
  go_wp2_with fail
  rw [← Hwa.out]
  go_wp2_with fail
  refine C1.out.mono ?_
  rintro e w1 ⟨P, p, q, rfl, hSl, hB1⟩
  have y0 := x0.below x0.lt hB1
  have v1 := Wd.Bx.below v0 (Wd.Bx.lt v0) hB1
  have hb1 := Hb1.out.trans (hB1.mono Hb1.out.size)
  have hpl := hSl.len
  have hpc := hSl.cap
  have hpm := hSl.max
  unfold maxLen at hpm
  have hp1 : p ≤ 4096 := by omega
  have Hpl := Lib.hid hpl
  have HSl := Lib.hid hSl
  have HD1 := Lib.hid (HD.out.below hb1)
  have HB1 := Lib.hid hb1
  have HV1 := Lib.hid v1
  obtain ⟨⟨g0, g1, g2, g3⟩, f0, f1, f2, f3⟩ := Vc.four v1
  have hlv := Wd.Bx.lt v1
  clear c0 c1 c2 x0 v0 hB1 C1 hpl hSl hb1 h4 HD v1
  have hc1 := y0.c1
  have none_ : atv C i = (null, false) → ∃ k x s b r, (⟨k, x, s, b⟩, r) = atv C i ∧ Ending.returned (.tuple #[.agg #[.int .i64 0, .int .i64 0, .string ⟨#[]⟩, .bool false], .bool false]) = .returned (.tuple #[.agg #[.int .i64 k, .int .i64 x, .string s, .bool b], .bool r]) ∧ True := fun e => ⟨0, 0, ⟨#[]⟩, false, false, e.symm, rfl, trivial⟩
  have None := Lib.hid none_
  have hbs := Lib.hid (fun (k i : Int) (s : ByteArray) (b : Bool) => (Vc.below_setV (k := k) (i := i) (s := s) (b := b) HB1.out (show w.heap.size ≤ w.heap.size + 1 by omega)))
  clear none_
  by_cases hin : r = true ∧ 0 ≤ i ∧ i < (p : Int)
  case neg =>
    have e0 := Hz.out (fun q => by
      refine hin ⟨?_, q.1, by have := Hpl.out; omega⟩
      by_cases hv : Valid C
      · rw [Hr.out]; exact tr_yes hv
      · have := Hz0.out hv
        rw [this] at q
        simp at q
        omega)
    have HE := Lib.hid (None.out e0)
    clear e0 None
    have hcase : r = false ∨ (r = true ∧ i < 0) ∨ (r = true ∧ 0 ≤ i ∧ (p : Int) ≤ i) := by
      cases r
      · exact .inl rfl
      · by_cases q : i < 0
        · exact .inr (.inl ⟨rfl, q⟩)
        · exact .inr (.inr ⟨rfl, by omega, Classical.byContradiction fun q2 => hin ⟨rfl, by omega, by omega⟩⟩)
    clear hin
    rcases hcase with rfl | ⟨rfl, q1⟩ | ⟨rfl, q1, q2⟩
    all_goals (
      go_wp2_with fail
      (try simp only [Exit.inBlock, Exit.then])
      obtain ⟨k', x', s', b', r', e1, e2, -⟩ := HE.out
      refine bodyPost_ret (v := .tuple #[.agg #[.int .i64 0, .int .i64 0, .string ⟨#[]⟩, .bool false], .bool false]) ?_ rfl ⟨k', x', s', b', r', e1, e2, hbs.out 0 0 ⟨#[]⟩ false⟩
      rw [res_cell2 rfl]; go_simp)
  obtain ⟨rfl, hi0, hip⟩ := hin
  obtain ⟨k, rfl⟩ : ∃ k : Nat, i = (k : Int) := ⟨i.toNat, by omega⟩
  have hkL : k < L.length := by rw [← Hpl.out]; omega
  obtain ⟨b, o, hP, hbl, hc⟩ := HSl.out.rd k hkL
  subst hP
  obtain ⟨x, hx⟩ : ∃ x, x = L.getD k 0 := ⟨_, rfl⟩
  have hxm : x ∈ L := by
    rw [hx, List.getD_eq_getElem?_getD, List.getElem?_eq_getElem hkL]
    exact List.getElem_mem hkL
  obtain ⟨hx0, hxn⟩ := Hin.out x hxm
  have hT := Ha.out k hkL
  rw [← hx] at hc hT
  obtain ⟨z, hz⟩ : ∃ z : Nat, x = (z : Int) := ⟨x.toNat, by omega⟩
  subst hz
  rw [Int.toNat_natCast] at hT
  have hzn : z < C.dict.length := by rw [← Hn.out]; omega
  obtain ⟨e, f, hA, heB, d0, d1, d2, d3, hv1⟩ := HD1.out.cells (j := z) hzn rfl
  subst hA
  obtain ⟨y, hy⟩ : ∃ y, y = C.dict.getD z default := ⟨_, rfl⟩
  rw [← hy] at d0 d1 d2 d3 hT
  obtain ⟨vk, vi, vs, vb⟩ := y
  have HT := Lib.hid hT
  clear hx hxm hT hzn hy hv1 hkL None
  go_wp2_with fail
  go_region
  all_goals (
    go_wp2_with fail
    (try simp only [Exit.inBlock, Exit.then])
    refine bodyPost_ret (v := .tuple #[.agg #[.int .i64 vk, .int .i64 vi, .string vs, .bool vb], .bool true]) ?_ rfl ⟨vk, vi, vs, vb, true, HT.out.symm, rfl, ?_⟩
    · rw [res_cell2 rfl]; go_simp
    · have := hbs.out vk vi vs vb
      exact ⟨this.os, this.tape, this.output, this.size, this.block⟩)
end Cx
end Go.Proofs.YtoibpbnebcoafaaGreat
