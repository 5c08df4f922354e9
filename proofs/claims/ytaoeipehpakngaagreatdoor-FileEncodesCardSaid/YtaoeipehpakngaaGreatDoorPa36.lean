/- slices.Values, AppendSeq, Collect and Sorted at a row of integers. Package seal: mayOffsets. Package seal: mayCols. -/
import Derived.RangeFuncBox
import Derived.RangeFuncNested
import Derived.RangeFuncLeaves
import Derived.Shelf.Abstract
import Derived.Shelf.AbstractIn
import Derived.WalkKit
import Derived.OwnWalkIn
import Derived.TacticsInMore
import Derived.Maps.AppendAt
import Derived.LoopNIn
import Derived.LoopIn
import Derived.Deep.RegionHeld3
import Derived.Deep.DeepCutAuto
import Derived.Lib.Hide
import Derived.Test.YtaoeipehpakngaaGreatDoorPa35
import Derived.Test.YtaoeipehpakngaaGreatDoorPa01
import Derived.Test.YtaoeipehpakngaaGreatDoorPa12
import Derived.Test.YtaoeipehpakngaaGreatDoorPa21
import Derived.Test.YtaoeipehpakngaaGreatDoorPa20
import Derived.Test.YtaoeipehpakngaaGreatDoorPa18
namespace Go.Proofs.YtaoeipehpakngaaGreatDoor
set_option maxRecDepth 100000
open Go.RowKit Go.Maps Go.Sort Go.Shelf
attribute [local go_sem] Oper.semAt_some
namespace Se
set_option maxHeartbeats 2000000 in
theorem values1_in {w : World} {A : Option Addr} {m c : Nat} {zs : List Int} (hS : Wd.Sl w .i64 A m c zs) (n : Nat) (hn : 1 ≤ n) (l B : Nat) (J Jx : List Int → World → Prop)
    (hY : ∀ pre x W, J pre W → pre.length < zs.length → YieldAt Fence.wide (n - 1) Tryz.prog l #[.int .i64 x] W fun e W' =>
      (e = .returned (.bool true) ∧ J (pre ++ [x]) W' ∧ Below w.heap.size W W') ∨ (e = .returned (.bool false) ∧ Jx (pre ++ [x]) W'))
    (W : World) (hW : Below w.heap.size w W) (hB : W.cell? ⟨B, 0, none⟩ = some (.slice A m c)) (h0 : J [] W) :
    CallsIn Fence.wide n Tryz.prog 134 #[.func (.yield l) #[] #[], .pointer (some ⟨B, 0, none⟩)] W fun e W' => (∃ v, e = .returned v) ∧
      ((∃ ys, ys = zs ∧ J ys W') ∨ (∃ pre, pre <+: zs ∧ Jx pre W')) := by
  have hlen := hS.len
  have hcap := hS.cap
  have hmax := hS.max
  unfold maxLen at hmax
  refine callsIn_of_wp Tryz.func134 rfl trivial ?_ rfl
  simp only [Tryz.ntmps134, List.size_toArray, List.length_cons, List.length_nil, Nat.reduceAdd, Nat.reduceSub, Array.replicate_succ, Array.replicate_zero, List.push_toArray, List.append_toArray, List.nil_append, List.cons_append]
  gi_wp2
  gi_loopw [7] (fun i wr => ∃ k : Nat, k ≤ m ∧ i = .int .i64 k ∧ J (zs.take k) wr ∧ Below w.heap.size w wr) (fun i _ => m - (intOf i).toNat)
  case atStart => exact ⟨0, Nat.zero_le _, rfl, h0, hW⟩
  case round =>
    obtain ⟨k, hk, rfl, hJs, hnx⟩ := hrel
    by_cases hlt : k < m
    · obtain ⟨b, f, hA, hb, hx⟩ := (hS.below hnx).rd k (by omega)
      subst hA
      obtain ⟨fn, tmps, assign, body, hy, hR⟩ := hY _ (zs.getD k 0) wr hJs (by rw [List.length_take]; omega)
      have hs : zs.take k ++ [zs.getD k 0] = zs.take (k + 1) := by
        rw [List.getD_eq_getElem?_getD, List.getElem?_eq_getElem (by omega), List.take_add_one, List.getElem?_eq_getElem (by omega)]
        rfl
      rw [hs] at hR
      generalize zs.getD k 0 = z at *
      gi_wp2
      refine hR.mono ?_
      rintro e W3 (⟨rfl, hJ3, hk3⟩ | ⟨rfl, hJx3⟩)
      · gi_wp2
        go_roundw
        case rel => exact ⟨k + 1, by omega, by simp, hJ3, hnx.trans hk3⟩
        case measure => simp [intOf]; omega
      · gi_wp2
        refine bodyPost_ret (results_none rfl _ _ _) rfl ?_
        exact ⟨⟨_, rfl⟩, .inr ⟨_, List.take_prefix _ _, hJx3⟩⟩
    · obtain rfl : k = m := by omega
      gi_wp2
      go_end0
      exact ⟨⟨_, rfl⟩, .inl ⟨_, by rw [hlen]; exact List.take_length, hJs⟩⟩
theorem values_stops {w : World} {A : Option Addr} {m c : Nat} {zs : List Int} (hS : Wd.Sl w .i64 A m c zs) (n : Nat) (hn : 1 ≤ n) (B : Nat) (w1 : World) (hB : B < w1.heap.size) (hw : Below w.heap.size w w1) (hc : w1.cell? ⟨B, 0, none⟩ = some (.slice A m c)) :
    SeqStopsK Fence.wide n Tryz.prog 134 #[.pointer (some ⟨B, 0, none⟩)] (fun x : Int => #[Value.int .i64 x]) (Below w.heap.size) (fun ys => ys = zs) (fun pre => pre <+: zs) zs.length w1 := fun l J Jx W hW _ _ hY h0 =>
  values1_in hS n hn l B J Jx hY W (hw.trans (hW.mono hw.size)) ((hW.cell (p := ⟨B, 0, none⟩) hB).trans hc) h0
theorem values_in (n : Nat) (A : Option Addr) (m c : Nat) (w : World) :
    CallsIn Fence.wide n Tryz.prog 87 #[.slice A m c] w fun e w' => e = .returned (.func (.func 134) #[] #[.pointer (some ⟨w.heap.size, 0, none⟩)]) ∧ w' = w.alloc (.cells #[.slice A m c] 25) := by
  refine callsIn_of_wp Tryz.func87 rfl trivial ?_ rfl
  simp only [Tryz.ntmps87, List.size_toArray, List.length_cons, List.length_nil, Nat.reduceAdd, Nat.reduceSub, Array.replicate_succ, Array.replicate_zero, List.push_toArray, List.append_toArray, List.nil_append, List.cons_append]
  gi_wp2
  go_ret
  exact ⟨rfl, rfl⟩
theorem info_int : (Tryz.prog.info? 3).map (fun i => (i.zero, i.size, i.bytes)) = some (some (.int .i64 0), 1, 8) := by kernel_rfl
set_option maxHeartbeats 4000000 in
theorem append_in {w0 : World} {A : Option Addr} {m c : Nat} {zs : List Int} (hS : Wd.Sl w0 .i64 A m c zs) (hm : m ≤ 1000000) (n : Nat) (hn : 3 ≤ n) (B : Nat) (w : World) (hB : B < w.heap.size) (hw : Below w0.heap.size w0 w) (hc : w.cell? ⟨B, 0, none⟩ = some (.slice A m c)) :
    CallsIn Fence.wide n Tryz.prog 184 #[.slice none 0 0, .func (.func 134) #[] #[.pointer (some ⟨B, 0, none⟩)]] w fun e W' => ∃ v, e = .returned v ∧ W'.ownsRow w.heap.size 3 1 v zs.length (zs.map (Value.int .i64)) ∧ Below w.heap.size w W' := by
  have h1 : 1 ≤ n := by omega
  have hlen := hS.len
  obtain ⟨i0, hi, hz0, hz1, hz2⟩ := info_parts info_int
  have hu := Tryz.underlying25
  refine callsIn_of_wp_marks Tryz.func184 rfl trivial ?_ rfl
  simp only [Tryz.ntmps184, List.size_toArray, List.length_cons, List.length_nil, Nat.reduceAdd, Nat.reduceSub, Array.replicate_succ, Array.replicate_zero, List.push_toArray, List.append_toArray, List.nil_append, List.cons_append]
  gi_wp2
  have bO := Boxed.new w 25 (.slice none 0 0)
  have hB0 : Below w.heap.size w (w.alloc (.cells #[.slice none 0 0] 25)) := (Below.refl _ w).alloc (Nat.le_refl _) _
  refine wpIn_rangeFunc_ownG rfl h1 (gf := 134) (lb := #[.pointer (some ⟨B, 0, none⟩)]) rfl trivial (enters_of Tryz.func134 (by kernel_rfl) rfl)
    (values_stops hS (n - 1) (by omega) B _ (by simp; omega) (hw.trans (hB0.mono hw.size)) ((hB0.cell (p := ⟨B, 0, none⟩) hB).trans hc)) belowK_t (belowK_b (by have := hw.size; simp; omega)) (Below.refl _ _) (fun _ => rfl)
    (fun pre W => (∃ v, Boxed W w.heap.size 25 v ∧ W.ownsRow w.heap.size 3 1 v pre.length (pre.map (Value.int .i64)) ∧ (v = .slice none 0 0 ↔ pre = [])) ∧ Below w.heap.size w W)
    (fun _ _ _ => False)
    (OwnFrom.and (Own.from (holdsRow_own w.heap.size w.heap.size 25 3 1 (fun pre => pre.length) (fun pre => pre.map (Value.int .i64)) (fun pre v => v = .slice none 0 0 ↔ pre = [])) _) (ownFrom_below (Nat.le_refl _) (by simp)))
    (fun _ _ _ _ _ hs _ _ => hs)
    ⟨⟨_, bO, World.ownsRow_nil _ _ _ _, by simp⟩, hB0⟩
    (fun x => { tmps := #[.slice none 0 0, .func (.func 134) #[] #[.pointer (some ⟨B, 0, none⟩)], .pointer (some ⟨w.heap.size, 0, none⟩), undef, .slice none 0 0, .int .i64 x, .func (.func 134) #[] #[.pointer (some ⟨B, 0, none⟩)], .int .i64 x, undef, undef, undef, undef, undef], defers := [] }) ?assign ?body ?done ?stop
  case assign =>
    intro l x W K hK
    gi_wp2
    exact hK
  case body =>
    rintro l pre x W ⟨⟨v, hv, hrow, hnil⟩, hB⟩ hlt
    have hc := hv.cell
    gi_wp2_with (gi_at_builtin; refine wpListIn_append_own _ rfl _ _ 25 rfl w.heap.size 3 i0 (.int .i64 0) 1 8 hu hi hz0 hz1 hz2 rfl (by decide) _ _ _ rfl (hrow.alloc _) ⟨W.heap.size, 0, none⟩ 1 1 [.int .i64 x] rfl rfl (cell_one_new _ _ _) (by simp [Value.oneCell']) (by unfold maxLen; omega) (by omega) (by have := hB.size; simp; omega) ?_; intro v' w1 hown' hgrow _; obtain ⟨g', cap', rfl⟩ := ownsRow_succ hown'; obtain ⟨hv1, hv2, hr2, hk2, hb2⟩ := hv.appended (by decide) hrow hB.size (Nat.le_refl _) hown' hgrow; have hc1 := hv1.cell; have hf1 := hv1.frozen)
    exact ⟨hk2.from _, hb2.mono (by have := hw.size; omega), ⟨_, hv2, by simpa using hr2, by simp⟩, hB.trans hb2⟩
  case done =>
    rintro D ys W hD rfl ⟨⟨v, hv, hrow, hnil⟩, hB⟩ hK
    have hc := hv.cell
    gi_wp2
    refine ⟨by simp, .inl ⟨_, _, rfl, run_takeDeferred hK, ?_⟩⟩
    exact ⟨_, results_tmp rfl _ _ _, v, rfl, ownsRow_putObj hrow _ hK rfl, hB.trans (belowK_b (w := w) (Nat.le_refl _) W D _ _ (by simp at hD; omega) hK rfl rfl)⟩
  case stop =>
    rintro D c pre W _ _ h _
    exact h.elim
set_option maxHeartbeats 1000000 in
theorem collect_in {w0 : World} {A : Option Addr} {m c : Nat} {zs : List Int} (hS : Wd.Sl w0 .i64 A m c zs) (hm : m ≤ 1000000) (n : Nat) (hn : 4 ≤ n) (B : Nat) (w : World) (hB : B < w.heap.size) (hw : Below w0.heap.size w0 w) (hc : w.cell? ⟨B, 0, none⟩ = some (.slice A m c)) :
    CallsIn Fence.wide n Tryz.prog 132 #[.func (.func 134) #[] #[.pointer (some ⟨B, 0, none⟩)]] w fun e W' => ∃ v, e = .returned v ∧ W'.ownsRow w.heap.size 3 1 v zs.length (zs.map (Value.int .i64)) ∧ Below w.heap.size w W' := by
  have h1 : 1 ≤ n := by omega
  have Ca := append_in hS hm (n - 1) (by omega) B w hB hw hc
  have hf : Fence.wide.fn 184 := trivial
  refine callsIn_of_wp Tryz.func132 rfl trivial ?_ rfl
  simp only [Tryz.ntmps132, List.size_toArray, List.length_cons, List.length_nil, Nat.reduceAdd, Nat.reduceSub, Array.replicate_succ, Array.replicate_zero, List.push_toArray, List.append_toArray, List.nil_append, List.cons_append]
  gi_wp2_with (gi_at_call 184; refine Ca.mono ?_; rintro e w' ⟨v, rfl, hrow, hb⟩)
  go_ret
  exact ⟨v, rfl, hrow, hb⟩
set_option maxHeartbeats 1000000 in
theorem sorted_in {w0 : World} {A : Option Addr} {m c : Nat} {zs : List Int} (hS : Wd.Sl w0 .i64 A m c zs) (hm : m ≤ 1000000) (n : Nat) (hn : 5 ≤ n) (B : Nat) (w : World) (hB : B < w.heap.size) (hw : Below w0.heap.size w0 w) (hc : w.cell? ⟨B, 0, none⟩ = some (.slice A m c)) :
    CallsIn Fence.wide n Tryz.prog 86 #[.func (.func 134) #[] #[.pointer (some ⟨B, 0, none⟩)]] w (Wd.Out w .i64 (zs.mergeSort fun x y => decide (x ≤ y))) := by
  have h1 : 1 ≤ n := by omega
  have hlen := hS.len
  have Cc := collect_in hS hm (n - 1) (by omega) B w hB hw hc
  have hf : Fence.wide.fn 132 := trivial
  have hf2 : Fence.wide.fn 133 := trivial
  refine callsIn_of_wp Tryz.func86 rfl trivial ?_ rfl
  simp only [Tryz.ntmps86, List.size_toArray, List.length_cons, List.length_nil, Nat.reduceAdd, Nat.reduceSub, Array.replicate_succ, Array.replicate_zero, List.push_toArray, List.append_toArray, List.nil_append, List.cons_append]
  gi_wp2_with (gi_at_call 132; refine Cc.mono ?_; rintro e W ⟨v, rfl, hrow, hb⟩)
  rcases hrow.2 with ⟨rfl, hz⟩ | ⟨gb, cap, cur, rfl, hbase, hgb, r1, r2, r3, r4⟩
  · have hss : zs = [] := List.eq_nil_of_length_eq_zero hz
    subst hss
    gi_wp2_with (gi_at_call 133; refine (callsIn_wide.2 (AnyM.slices_Sort_int_none Tryz.sortI none 0 W)).mono ?_; rintro e w' ⟨rfl, rfl⟩)
    go_ret
    exact ⟨none, 0, 0, rfl, by rw [List.mergeSort_nil]; exact Wd.Sl.none_ _ _, hb⟩
  · have hH : Holds (Value.int .i64) W gb 0 zs.toArray := holds_of_block_i hgb (by simpa using r4)
    have hgl : gb < W.heap.size := (Array.getElem?_eq_some_iff.1 hgb).1
    have cS := AnyM.slices_Sort_int Tryz.sortI gb 0 cap zs W hH hgl (by omega)
    change Calls _ 133 _ _ _ at cS
    gi_wp2_with (gi_at_call 133; refine (callsIn_wide.2 cS).mono ?_; rintro e w' ⟨rfl, nn, os, rfl⟩)
    go_ret
    exact Wd.Out.of_own (ownsRow_sorted_i (ss := zs) (by simp) hbase hgb r1 r2 r3) (hb.grown (grownBy_sorted_i _) hb.size (fun j hj => by cases hj; exact hbase))
end Se
end Go.Proofs.YtaoeipehpakngaaGreatDoor
namespace Go.Proofs.YtaoeipehpakngaaGreatDoor
set_option maxRecDepth 20000
open Go.RowKit
namespace Se
open Sc (Sch tr tr_yes tr_no tr_iff tr_congr)
open Wd (Cr)
def OffOk (x : Seg) : Prop := x.offs.Nodup ∧ ∀ o ∈ x.offs, x.st ≤ o ∧ o < x.en
theorem off_iff (x : Seg) : Rise x.st x.en (x.offs.mergeSort fun a b => decide (a ≤ b)) ↔ OffOk x := by
  have hp := List.mergeSort_perm x.offs (fun a b => decide (a ≤ b))
  have hs : (x.offs.mergeSort fun a b => decide (a ≤ b)).Pairwise (fun a b => decide (a ≤ b) = true) :=
    List.pairwise_mergeSort (fun a b c h k => by simp at *; omega) (fun a b => by simp; omega) x.offs
  rw [rise_iff, OffOk, ← hp.nodup_iff]
  constructor
  · rintro ⟨h1, h2⟩
    exact ⟨h1.imp fun {a b} h => by omega, fun o ho => h2 o (hp.mem_iff.2 ho)⟩
  · rintro ⟨h1, h2⟩
    refine ⟨?_, fun o ho => h2 o (hp.mem_iff.1 ho)⟩
    exact (hs.and h1).imp fun {a b} h => by
      have := h.2
      have := of_decide_eq_true h.1
      omega
theorem values_any (A : Option Addr) (m c : Nat) (w : World) :
    Calls Tryz.prog 87 #[.slice A m c] w fun e w' => ∃ B, e = .returned (.func (.func 134) #[] #[.pointer (some ⟨B, 0, none⟩)]) ∧ B < w'.heap.size ∧ w'.cell? ⟨B, 0, none⟩ = some (.slice A m c) ∧ Below w.heap.size w w' := by
  refine ((callsIn_wide (n := 6)).1 (values_in 6 A m c w)).mono ?_
  rintro e w' ⟨rfl, rfl⟩
  exact ⟨_, rfl, by simp, (Boxed.new w 25 (.slice A m c)).cell, (Below.refl _ _).alloc (Nat.le_refl _) _⟩
set_option maxHeartbeats 4000000 in
theorem mayOffsets_any (OA : Option Addr) (on oc : Nat) (CA : Option Addr) (cn cc : Nat) (os : List Cr) (x : Seg) (w : World) (hX : Sg w OA on oc CA cn cc os x) (hon : on ≤ 1000000) (hst : 0 ≤ x.st) (hst2 : x.st ≤ 1099511627776) (hen : x.en ≤ 1099511627776) :
    Calls Tryz.prog 44 #[.agg #[.int .i64 x.part, .int .i64 x.id, .int .i64 x.st, .int .i64 x.en, .slice OA on oc, .slice CA cn cc]] w fun e w' => e = .returned (.bool (tr (OffOk x))) ∧ Below w.heap.size w w' := by
  have x1 : Gb (w.alloc (.cells #[.int .i64 x.part, .int .i64 x.id, .int .i64 x.st, .int .i64 x.en, .slice OA on oc, .slice CA cn cc] 28)) w.heap.size x.part x.id x.st x.en OA on oc CA cn cc := Gb.new _ _ _ _ _ _ _ _ _ _ _
  have hb1 : Below w.heap.size w (w.alloc (.cells #[.int .i64 x.part, .int .i64 x.id, .int .i64 x.st, .int .i64 x.en, .slice OA on oc, .slice CA cn cc] 28)) := (Below.refl _ _).alloc (Nat.le_refl _) _
  obtain ⟨w1, hw1⟩ : ∃ w1, w1 = w.alloc (.cells #[.int .i64 x.part, .int .i64 x.id, .int .i64 x.st, .int .i64 x.en, .slice OA on oc, .slice CA cn cc] 28) := ⟨_, rfl⟩
  rw [← hw1] at x1 hb1
  have HO := Lib.hid (fun W (hb : Below w.heap.size w W) => hX.offs.below hb)
  have Cv := Lib.hid (fun W => values_any OA on oc W)
  have hS := hX.offs
  have Cs := Lib.hid (fun B W (hB : B < W.heap.size) (hw : Below w.heap.size w W) (hc : W.cell? ⟨B, 0, none⟩ = some (.slice OA on oc)) => (callsIn_wide (n := 6)).1 (sorted_in hS hon 6 (by omega) B W hB hw hc))
  have Cr := Lib.hid (fun (R : Option Addr) (m d : Nat) (W : World) (hl : Wd.Sl W .i64 R m d (x.offs.mergeSort fun a b => decide (a ≤ b))) => rise_any OA on oc CA cn cc x.part x.id x.st x.en R m d _ W hl hst hst2 hen)
  rw [tr_congr (off_iff x)] at Cr
  obtain ⟨r, hr⟩ : ∃ r, r = tr (OffOk x) := ⟨_, rfl⟩
  rw [← hr] at Cr ⊢
  have z10 := Gb.six (w := w1.drew) (Wd.Bx.drew x1)
  have hdd : Below w1.heap.size w1 w1.drew := (Below.refl _ _).drew
  have Hw1 := Lib.hid hw1
  have HB1 := Lib.hid hb1
  have X1 := Lib.hid x1
  clear x1 hw1 hX hS hr hb1
  go_enter Tryz.func44, Tryz.ntmps44
  go_upto_region 1 with fail
  rw [← Hw1.out]
  go_region_held3 (fun w' => w'.cell? ⟨w.heap.size, 0, none⟩ = some (.int .i64 x.part) ∧ w'.cell? ⟨w.heap.size, 1, none⟩ = some (.int .i64 x.id) ∧ w'.cell? ⟨w.heap.size, 2, none⟩ = some (.int .i64 x.st) ∧ w'.cell? ⟨w.heap.size, 3, none⟩ = some (.int .i64 x.en) ∧ w'.cell? ⟨w.heap.size, 4, none⟩ = some (.slice OA on oc) ∧ w'.cell? ⟨w.heap.size, 5, none⟩ = some (.slice CA cn cc)) (with_reducible first | exact z10) (first
    | (go_at_call 87; (with_reducible refine (Cv.out _).mono ?_); rintro e w2 ⟨B, rfl, hBl, hBc, hB2⟩; have hb2 : Below w1.heap.size w1 w2 := hdd.trans hB2; have z10 := Gb.six (X1.out.below X1.out.lt hb2))
    | (go_at_call 86; (with_reducible refine (Cs.out _ _ hBl (HB1.out.trans (hb2.mono HB1.out.size)) hBc).mono ?_); rintro e w3 ⟨R, m, d, rfl, hL3, hB3⟩; have hb3 : Below w1.heap.size w1 w3 := hb2.trans (hB3.mono hb2.size); have z10 := Gb.six (X1.out.below X1.out.lt hb3))
    | (go_at_call 85; (with_reducible refine (Cr.out R m d _ hL3).mono ?_); rintro e w4 ⟨rfl, hB4⟩; have hb4 : Below w1.heap.size w1 w4 := hb3.trans (hB4.mono hb3.size); have z10 := Gb.six (X1.out.below X1.out.lt hb4)))
  all_goals (
    have H3 := Lib.hid (HB1.out.trans (hb4.mono HB1.out.size))
    clear hb4 hB4 hb3 hB3 hb2 hB2 hL3 hBl hBc
    go_wp2_with fail
    go_ret
    exact ⟨rfl, H3.out⟩)
end Se
namespace Se
open Va (Vl May null)
open Sc (Sch tr tr_yes tr_no tr_iff tr_congr)
open Sx (Sb five)
open Wd (Cr)
def ColsOk (s : Sch) (x : Seg) : Prop := x.cols.length = s.cols.length ∧ x.offs.length ≤ 4096 ∧ ∀ c ∈ x.cols, c.n = (x.offs.length : Int) ∧ Co.Valid c
set_option maxHeartbeats 4000000 in
theorem mayCols_any (A : Option Addr) (n c : Nat) (s : Sch) (OA : Option Addr) (on oc : Nat) (CA : Option Addr) (cn cc : Nat) (os : List Cr) (x : Seg) (w : World) (hS : Wd.Cs w A n c s.cols) (hX : Sg w OA on oc CA cn cc os x) (hlt : Lt os) (hcn : cn ≤ 1000000) :
    Calls Tryz.prog 43 #[.agg #[.slice A n c, .int .i64 s.key, .int .i64 s.cmp, .int .i64 s.del, .int .i64 s.sort], .agg #[.int .i64 x.part, .int .i64 x.id, .int .i64 x.st, .int .i64 x.en, .slice OA on oc, .slice CA cn cc]] w fun e w' => e = .returned (.bool (tr (ColsOk s x))) ∧ Below w.heap.size w w' := by
  obtain ⟨w1, hw1⟩ : ∃ w1, w1 = (w.alloc (.cells #[.slice A n c, .int .i64 s.key, .int .i64 s.cmp, .int .i64 s.del, .int .i64 s.sort] 24)).alloc (.cells #[.int .i64 x.part, .int .i64 x.id, .int .i64 x.st, .int .i64 x.en, .slice OA on oc, .slice CA cn cc] 28) := ⟨_, rfl⟩
  have z1 : (w.alloc (.cells #[.slice A n c, .int .i64 s.key, .int .i64 s.cmp, .int .i64 s.del, .int .i64 s.sort] 24)).heap.size = w.heap.size + 1 := by simp
  have s1 : Sb w1 w.heap.size A n c s.key s.cmp s.del s.sort := by rw [hw1]; exact (Wd.Bx.new w _ _).alloc _
  have x1 : Gb w1 (w.heap.size + 1) x.part x.id x.st x.en OA on oc CA cn cc := by
    have := Gb.new (w.alloc (.cells #[.slice A n c, .int .i64 s.key, .int .i64 s.cmp, .int .i64 s.del, .int .i64 s.sort] 24)) x.part x.id x.st x.en OA on oc CA cn cc
    rw [z1] at this
    rw [hw1]
    exact this
  have hb1 : Below w.heap.size w w1 := by rw [hw1]; exact ((Below.refl _ _).alloc (Nat.le_refl _) _).alloc (by simp) _
  obtain ⟨c0, c1, c2, c3, c4⟩ := five s1
  obtain ⟨d0, d1, d2, d3, d4, d5⟩ := x1.six
  have Hn := Lib.hid hS.len
  have Hcn := Lib.hid hX.cols.len
  have Hon := Lib.hid hX.offs.len
  have hoc := hX.offs.cap
  have hox := hX.offs.max
  unfold maxLen at hox
  have HX := Lib.hid hX
  have X1 := Lib.hid x1
  have Hb1 := Lib.hid hb1
  have Hw1 := Lib.hid hw1
  have hzl := x1.lt
  obtain ⟨r, hr⟩ : ∃ r, r = tr (ColsOk s x) := ⟨_, rfl⟩
  rw [← hr]
  have Hr := Lib.hid hr
  have Hno := Lib.hid (fun (h : ¬ ColsOk s x) => (by rw [hr]; exact tr_no h : r = false))
  clear hw1 z1 s1 x1 hb1 hX hS hr
  go_enter Tryz.func43, Tryz.ntmps43
  go_upto_region 1 with fail
  rw [← Hw1.out]
  by_cases h1 : cn = n
  case neg =>
    have t1 : ((cn : Int) != (n : Int)) = true := by simp; omega
    have t2 := Lib.hid (Hno.out fun z => h1 (by have := z.1; rw [HX.out.eq, Wd.cols_len] at this; have := Hn.out; have := Hcn.out; omega))
    clear h1
    go_wp2_with fail
    go_ret
    exact ⟨by rw [t2.out]; rfl, Hb1.out⟩
  have t1 : ((cn : Int) != (n : Int)) = false := by simp; omega
  by_cases h2 : 4096 < on
  · have t3 : (4096 : Int) < (on : Int) := by omega
    have t3' : decide ((4096 : Int) < (on : Int)) = true := decide_eq_true t3
    have t2 := Lib.hid (Hno.out fun z => by have := z.2.1; have := Hon.out; omega)
    have H1 := Lib.hid h1
    clear h1
    go_wp2_with fail
    go_ret
    exact ⟨by rw [t2.out]; rfl, Hb1.out⟩
  have t3 : ¬ (4096 : Int) < (on : Int) := by omega
  have t3' : decide ((4096 : Int) < (on : Int)) = false := decide_eq_false t3
  have H1 := Lib.hid h1
  clear h1
  go_wp2_with fail
  go_loopw [23] (fun i wr => ∃ k : Nat, i = .int .i64 k ∧ k ≤ cn ∧ Hid ((∀ j, j < k → (os.getD j default).C.n = (on : Int) ∧ Co.Valid (os.getD j default).C) ∧ Below w1.heap.size w1 wr)) (fun i _ => cn - (intOf i).toNat)
  case atStart => exact ⟨0, rfl, Nat.zero_le _, Lib.hid ⟨fun j hj => by omega, Below.refl _ _⟩⟩
  case round =>
    clear c0 c1 c2 c3 c4 d0 d1 d2 d3 d4 d5
    obtain ⟨k, rfl, hk, hI⟩ := hrel
    by_cases hltk : k < cn
    · have hkI : (k : Int) < (cn : Int) := by omega
      have hbw : Below w.heap.size w wr := Hb1.out.trans (hI.out.2.mono Hb1.out.size)
      have hko : k < os.length := by rw [← Hcn.out]; exact hltk
      obtain ⟨b, f, hA, _, c0, c1, c2, h1⟩ := (HX.out.cols.below hbw).cells hko rfl
      subst hA
      have hsz := hlt k hko
      obtain ⟨o, ho⟩ : ∃ o, o = os.getD k default := ⟨_, rfl⟩
      rw [← ho] at c0 c1 c2 h1 hsz
      have hbad := fun (h : ¬ (o.C.n = (on : Int) ∧ Co.Valid o.C)) => Hno.out fun z => h (by
        have := z.2.2 o.C (by
          rw [HX.out.eq, ho]
          unfold Wd.cols
          refine List.mem_map.2 ⟨os.getD k default, ?_, rfl⟩
          rw [List.getD_eq_getElem?_getD, List.getElem?_eq_getElem hko]
          exact List.getElem_mem hko)
        rw [← Hon.out] at this
        exact this)
      have hal := (Below.refl wr.heap.size wr).alloc (Nat.le_refl _) (.cells #[.int .i64 o.C.n, .slice o.A o.n o.c, .slice o.B o.m o.d] 57)
      have bx := Cx.Cb.new wr o.C.n o.A o.n o.c o.B o.m o.d
      have Cm := Lib.hid (Cx.cmay_any o.A o.n o.c o.B o.m o.d o.C _ (h1.below hal) hsz.1 hsz.2)
      have xb := Gb.six ((X1.out.below X1.out.lt hI.out.2).alloc (.cells #[.int .i64 o.C.n, .slice o.A o.n o.c, .slice o.B o.m o.d] 57))
      have x4 := xb.2.2.2.2.1
      obtain ⟨b0, b1, b2⟩ := And.intro bx.c0 (And.intro bx.c1 bx.c2)
      have Hal := Lib.hid (hI.out.2.trans (hal.mono hI.out.2.size))
      have hnn := h1.n0
      have hnn2 := h1.n1
      have Ho := Lib.hid ho
      have Hbad := Lib.hid hbad
      have Hbw := Lib.hid hbw
      clear hal bx h1 hsz ho hko hbad xb hbw
      by_cases q1 : o.C.n = (on : Int)
      case neg =>
        have t5 : (o.C.n != (on : Int)) = true := by simpa using q1
        have t6 := Lib.hid (Hbad.out fun z => q1 z.1)
        clear q1 hI
        go_wp2_with fail
        go_ret
        exact ⟨by rw [t6.out]; rfl, Hb1.out.trans (Hal.out.mono Hb1.out.size)⟩
      have t5 : (o.C.n != (on : Int)) = false := by simpa using q1
      have Q1 := Lib.hid q1
      clear q1
      by_cases q2 : Co.Valid o.C
      case neg =>
        have t6 := Lib.hid (Hbad.out fun z => q2 z.2)
        have t7 := Lib.hid (tr_no q2)
        clear q2 hI
        go_wp2_with fail
        refine Cm.out.mono ?_
        rintro e w3 ⟨rfl, hB3⟩
        rw [t7.out]
        have H3 := Lib.hid (Hal.out.trans (hB3.mono Hal.out.size))
        clear hB3 Cm
        go_wp2_with fail
        go_ret
        exact ⟨by rw [t6.out]; rfl, Hb1.out.trans (H3.out.mono Hb1.out.size)⟩
      have t7 := Lib.hid (tr_yes q2)
      have Q2 := Lib.hid q2
      clear q2
      go_wp2_with fail
      refine Cm.out.mono ?_
      rintro e w3 ⟨rfl, hB3⟩
      rw [t7.out]
      have I3 := Lib.hid (show (∀ j, j < k + 1 → (os.getD j default).C.n = (on : Int) ∧ Co.Valid (os.getD j default).C) ∧ Below w1.heap.size w1 w3 from ⟨fun j hj => by
        by_cases z : j = k
        · rw [z, ← Ho.out]; exact ⟨Q1.out, Q2.out⟩
        · exact hI.out.1 j (by omega), Hal.out.trans (hB3.mono Hal.out.size)⟩)
      clear hB3 Cm hI
      go_wp2_with fail
      go_roundw
      case rel => exact ⟨k + 1, by go_num, by omega, I3⟩
      case measure => simp [intOf]; omega
    · have hkI : ¬ (k : Int) < (cn : Int) := by omega
      have t6 := Lib.hid (show r = true by
        rw [Hr.out]
        refine tr_yes ⟨by rw [HX.out.eq, Wd.cols_len]; have := Hn.out; have := Hcn.out; have := H1.out; omega, by have := Hon.out; omega, fun c hc => ?_⟩
        rw [HX.out.eq] at hc
        obtain ⟨o, ho, rfl⟩ := List.mem_map.1 hc
        obtain ⟨j, hj, rfl⟩ := List.getElem_of_mem ho
        have := hI.out.1 j (by have := Hcn.out; omega)
        rw [← Hon.out]
        simpa [List.getD, List.getElem?_eq_getElem hj] using this)
      have H3 := Lib.hid (Hb1.out.trans (hI.out.2.mono Hb1.out.size))
      clear hI
      go_wp2_with fail
      go_ret
      exact ⟨by rw [t6.out]; rfl, H3.out⟩
end Se
end Go.Proofs.YtaoeipehpakngaaGreatDoor
