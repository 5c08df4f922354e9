/- What Add of package dict does. What slices.SortFunc is at this program: the numbers of what the library speaks of, as its contract asks them. slices.SortFunc of a row of values of the call's own, by value.Order: in plain words. -/
import Derived.Deep.RegionWith
import Derived.Deep.QuietTactic
import Derived.BigQuiet
import Derived.Shelf.SlSortCmp.WholeK
import Derived.Ground.SlsfProg
import Derived.Test.YtoibpbnebcoafaaGreatPk31
import Derived.Test.YtoibpbnebcoafaaGreatPk13
import Derived.Test.YtoibpbnebcoafaaGreatProg
import Derived.Test.YtoibpbnebcoafaaGreatPk23
import Derived.Test.YtoibpbnebcoafaaGreatPk20
namespace Go.Proofs.YtoibpbnebcoafaaGreat
set_option maxRecDepth 20000
open Go.RowKit Go.Maps
namespace Dt
open Va (Vl May ord null)
open Vc (mayB mayB_iff may_any)
open Sc (tr tr_yes tr_no tr_iff)
open Dc Dx
/-- append of one value: its run, and where the row lies then. -/
theorem run_appV_at (w : World) (ty : TypeId) (B : Nat) (v : Value) (L : List Vl) (hown : w.ownsRow B 56 4 v L.length (Wd.flatV L)) (ad : Addr) (o : Vl) (hc : ∀ j u, (Wd.vals o)[j]? = some u → w.cell? (ad.add j) = some u) (hL : L.length ≤ 1000000) (hB : B ≤ w.heap.size) :
    ∃ A c w', (Builtin.append_ #[45, 45] ty #[v, .slice (some ad) 1 1]).run Tryz.prog w = .ok (.slice A (L.length + 1) c) w' ∧ w'.ownsRow B 56 4 (.slice A (L.length + 1) c) (L ++ [o]).length (Wd.flatV (L ++ [o])) ∧ w.grownBy w' v.ownBlock ∧ ((Value.slice A (L.length + 1) c).ownBlock = v.ownBlock ∨ (Value.slice A (L.length + 1) c).ownBlock = some w.heap.size) := by
  obtain ⟨i0, hi, hz0, hz1, hz2⟩ := info_parts Wd.info_vl
  obtain ⟨v', w', hrun, h2, h3, _, h5⟩ := run_append_own_at (P := Tryz.prog) w B 45 ty 56 i0 _ 4 40 Tryz.underlying45 hi hz0 hz1 hz2 rfl (by decide) v L.length _ hown ad 1 1 (Wd.vals o) rfl hc (Wd.vals_one o) (by unfold maxLen; omega) (by omega) hB
  obtain ⟨A, c, rfl⟩ := own_shape h2
  exact ⟨A, c, w', hrun, by rw [List.length_append, Wd.flatV_app, Wd.flatV_one]; exact h2, h3, h5⟩
/-- An append whose run is known, as a step of a region. -/
theorem step_run {w w' : World} {ops : Array Oper} {o : Oper} {a : Act} {K : Act → World → Prop} {Q : Exit → Act → World → Prop} {E : Prop} (hgd : o.guard = none) {s x : Operand} {v : Value}
    (ho : o.op = .call { callee := .builtin .append, args := #[s, x], argTypes := #[45, 45] })
    (hrun : (Builtin.append_ #[45, 45] o.type #[a.eval s, a.eval x]).run Tryz.prog w = .ok v w') (h : K (a.put o.dst v) w') : if Region.wanted o (yielded ops a.tmps) = true then Oper.wp Tryz.prog o a w K Q else E := by
  rw [if_pos (by simp [Region.wanted, hgd])]
  unfold Oper.wp
  simp [execOp, ho, resolve, invoke, builtin, hrun, Result.andThen]
  exact h
section
variable {w : World} {d m : Nat} {v : Value} {L : List Vl} {k : Int} {G : Nat → Prop}
set_option maxHeartbeats 4000000 in
theorem add_any (x : Vl) (h : Lay w d m v L k G) (hd : Dis L k) (ho : ∀ y ∈ L, Okv y) (hx : Okv x) :
    Calls Tryz.prog 115 #[pt d, .agg #[.int .i64 x.kind, .int .i64 x.i, .string x.s, .bool x.b]] w fun e w' => e = .returned (.tuple #[.int .i64 (add L k x).2.1, .int .i64 (add L k x).2.2]) ∧ Wd.Mv G w w' ∧ ∃ G', D w' d (add L k x).1 k G' ∧ ∀ g, G' g → Wd.Gr G w w' g := by
  have hb0 := (Below.refl w.heap.size w).alloc (Nat.le_refl _) (.cells #[.int .i64 x.kind, .int .i64 x.i, .string x.s, .bool x.b] 56)
  have x0 : Vc.Vb (w.alloc (.cells #[.int .i64 x.kind, .int .i64 x.i, .string x.s, .bool x.b] 56)) w.heap.size x.kind x.i x.s x.b := Wd.Bx.new w _ _
  have Hh := Lib.hid h
  have Cm := Lib.hid (may_any x.kind x.i x.s x.b (w.alloc (.cells #[.int .i64 x.kind, .int .i64 x.i, .string x.s, .bool x.b] 56)))
  have Cf := Lib.hid fun w' (h' : Lay w' d m v L k G) => find_any x h' hd ho hx
  have Hd := Lib.hid hd
  have Ho := Lib.hid ho
  have Hx := Lib.hid hx
  have Hx0 := Lib.hid x0
  obtain ⟨r, hr⟩ : ∃ r, r = add L k x := ⟨_, rfl⟩
  rw [← hr]
  have Hr := Lib.hid hr
  have same : ∀ w' : World, Below w.heap.size w w' → r.1 = L → Wd.Mv G w w' ∧ ∃ G', D w' d r.1 k G' ∧ ∀ g, G' g → Wd.Gr G w w' g := fun w' hb e => by
    rw [e]
    exact ⟨Wd.Mv.of_below hb, G, ⟨m, v, Hh.out.below hb⟩, fun g hg => .inl hg⟩
  have Same := Lib.hid same
  clear h hd ho hx x0 hr same
  by_cases hM : May x
  case neg =>
    have em : mayB x.kind x.i x.s x.b = false := by
      cases q : mayB x.kind x.i x.s x.b
      · rfl
      · exact absurd ((mayB_iff _ _ _ _).1 q) hM
    rw [em] at Cm
    have er := Lib.hid (Hr.out.trans (add_bad hM))
    clear em hM
    go_enter Tryz.func115, Tryz.ntmps115
    obtain ⟨⟨y0, y1, y2, y3⟩, -⟩ := Vc.four Hx0.out
    go_wp2_with fail
    refine Cm.out.mono ?_
    rintro e w1 ⟨rfl, hB1⟩
    have hb1 := hb0.trans (hB1.mono hb0.size)
    go_wp2_with fail
    go_ret2
    exact ⟨by rw [er.out]; rfl, Same.out _ hb1 (by rw [er.out])⟩
  have em : mayB x.kind x.i x.s x.b = true := (mayB_iff _ _ _ _).2 hM
  rw [em] at Cm
  have HM := Lib.hid hM
  clear em hM
  by_cases hin : x ∈ L
  · have er := Lib.hid (Hr.out.trans (add_old HM.out hin))
    rw [if_pos hin, decide_eq_true hin] at Cf
    clear hin
    go_enter Tryz.func115, Tryz.ntmps115
    obtain ⟨⟨y0, y1, y2, y3⟩, -⟩ := Vc.four Hx0.out
    go_wp2_with fail
    generalize w.alloc (.cells #[.int .i64 x.kind, .int .i64 x.i, .string x.s, .bool x.b] 56) = wa at *
    refine Cm.out.mono ?_
    rintro e w1 ⟨rfl, hB1⟩
    have hb1 := hb0.trans (hB1.mono hb0.size)
    have Hx1 := Lib.hid (Hx0.out.below (Wd.Bx.lt Hx0.out) hB1)
    clear y0 y1 y2 y3 Cm Hx0 hB1 hb0
    obtain ⟨⟨y0, y1, y2, y3⟩, -⟩ := Vc.four Hx1.out
    go_wp2_with fail
    refine (Cf.out _ (Hh.out.below hb1)).mono ?_
    rintro e w2 ⟨rfl, hB2⟩
    have hb2 := hb1.trans (hB2.mono hb1.size)
    go_wp2_with fail
    go_ret2
    exact ⟨by rw [er.out]; rfl, Same.out _ hb2 (by rw [er.out])⟩
  rw [if_neg hin, decide_eq_false hin] at Cf
  have Hin := Lib.hid hin
  clear hin
  obtain ⟨A, c, hv⟩ := own_shape Hh.out.row
  have Hv := Lib.hid hv
  have cells := fun w' (hb : Below w.heap.size w w') => by
    have hl := Hh.out.below hb
    have c0 := hl.box.cell 0
    have c1 := hl.box.cell 1
    have c2 := hl.box.cell 2
    have f2 := hl.box.free 2
    simp at c0 c1 c2
    rw [Hv.out] at c2
    exact (⟨c0, c1, c2, f2⟩ : _ ∧ _ ∧ _ ∧ _)
  have Cells := Lib.hid cells
  have hlb := lim_bd k
  have hdl := Hd.out.len
  clear hv cells
  by_cases hl : lim k ≤ L.length
  · have er := Lib.hid (Hr.out.trans (add_full HM.out Hin.out hl))
    have hle : (L.length : Int) = lim k := by omega
    have Hle := Lib.hid hle
    clear hl hle hlb hdl
    rw [← Hle.out] at Cells
    go_enter Tryz.func115, Tryz.ntmps115
    obtain ⟨⟨y0, y1, y2, y3⟩, -⟩ := Vc.four Hx0.out
    go_wp2_with fail
    generalize w.alloc (.cells #[.int .i64 x.kind, .int .i64 x.i, .string x.s, .bool x.b] 56) = wa at *
    refine Cm.out.mono ?_
    rintro e w1 ⟨rfl, hB1⟩
    have hb1 := hb0.trans (hB1.mono hb0.size)
    have Hx1 := Lib.hid (Hx0.out.below (Wd.Bx.lt Hx0.out) hB1)
    clear y0 y1 y2 y3 Cm Hx0 hB1 hb0
    obtain ⟨⟨y0, y1, y2, y3⟩, -⟩ := Vc.four Hx1.out
    go_wp2_with fail
    refine (Cf.out _ (Hh.out.below hb1)).mono ?_
    rintro e w2 ⟨rfl, hB2⟩
    have hb2 := hb1.trans (hB2.mono hb1.size)
    clear y0 y1 y2 y3
    obtain ⟨c0, c1, c2, f2⟩ := Cells.out _ hb2
    go_wp2_with fail
    go_quiet (fail)
    go_wp2_with fail
    go_ret2
    exact ⟨by rw [er.out]; rfl, Same.out _ (Wd.below_drewN hb2 _) (by rw [er.out])⟩
  · have er := Lib.hid (Hr.out.trans (add_new HM.out Hin.out (by omega)))
    have hle : ((L.length : Int) == lim k) = false := by
      have : ¬ (L.length : Int) = lim k := by omega
      simpa using this
    have hL4 : L.length ≤ 4096 := by omega
    clear hl hlb hdl
    go_enter Tryz.func115, Tryz.ntmps115
    obtain ⟨⟨y0, y1, y2, y3⟩, -⟩ := Vc.four Hx0.out
    go_wp2_with fail
    generalize w.alloc (.cells #[.int .i64 x.kind, .int .i64 x.i, .string x.s, .bool x.b] 56) = wa at *
    refine Cm.out.mono ?_
    rintro e w1 ⟨rfl, hB1⟩
    have hb1 := hb0.trans (hB1.mono hb0.size)
    have Hx1 := Lib.hid (Hx0.out.below (Wd.Bx.lt Hx0.out) hB1)
    clear y0 y1 y2 y3 Cm Hx0 hB1 hb0
    obtain ⟨⟨y0, y1, y2, y3⟩, -⟩ := Vc.four Hx1.out
    go_wp2_with fail
    refine (Cf.out _ (Hh.out.below hb1)).mono ?_
    rintro e w2 ⟨rfl, hB2⟩
    have hb2 := hb1.trans (hB2.mono hb1.size)
    have Hx2 := Lib.hid (Hx1.out.below (Wd.Bx.lt Hx1.out) hB2)
    clear y0 y1 y2 y3 Hx1 hB2
    obtain ⟨c0, c1, c2, f2⟩ := Cells.out _ hb2
    go_wp2_with fail
    go_quiet (fail)
    go_wp2_with fail
    have hb3 : Below w.heap.size w (w2.drewN nq) := Wd.below_drewN hb2 _
    have hx3 : Below w2.heap.size w2 (w2.drewN nq) := Wd.below_drewN (Below.refl _ _) _
    have Hx3 := Lib.hid (Hx2.out.below (Wd.Bx.lt Hx2.out) hx3)
    clear c0 c1 c2 f2 Hx2 hb2 hx3
    generalize w2.drewN nq = w3 at *
    have hL3 := Hh.out.below hb3
    obtain ⟨w4, hrun, hown4, hg4⟩ := hL3.own.drew.update Dm.law Tryz.underlying149 (by unfold maxLen; omega) (Dm.key_of Hx.out.1 Hx.out.2) (plainElem_int (H := Unit) Tryz.underlying3 (a := (L.length : Int)) (by simp [Lit.wf, IntKind.min, IntKind.max, IntKind.signed, IntKind.bits]; omega))
    obtain ⟨c0, c1, c2, f2⟩ := Cells.out _ hb3
    obtain ⟨⟨y0, y1, y2, y3⟩, -⟩ := Vc.four Hx3.out
    have HL3 := Lib.hid hL3
    have Hown4 := Lib.hid hown4
    have Hg4 := Lib.hid (show w3.grownBy w4 (some m) by obtain ⟨a1, a2, a3, a4, a5⟩ := hg4; exact ⟨a1, a2, a3, a4, a5⟩)
    clear hL3 hown4 hg4
    go_region
    all_goals (
      clear c0 c1 c2 f2 y0 y1 y2 y3 hrun
      have dlt := HL3.out.box.lt
      have hmd := HL3.out.md
      have b4 : Wd.Bx w4 d 151 #[.int .i64 (lim k), .map (some m), v] := HL3.out.box.at_ (Hg4.out.block d dlt (by simpa using hmd.symm))
      have r4 := Wd.own_keep HL3.out.row fun y hy => Hg4.out.block y (Wd.own_lt HL3.out.row hy).1 (fun e => HL3.out.mv (by rw [hy]; exact e))
      have hgo : ∀ o : Obj, w3.grownBy (w4.alloc o).drew (some m) := fun o => by
        obtain ⟨a1, a2, a3, a4, a5⟩ := Hg4.out
        obtain ⟨b1, b2, b3, b4, b5⟩ := World.grownBy_alloc w4 o none
        exact ⟨b1.trans a1, b2.trans a2, b3.trans a3, Nat.le_trans a4 b4, fun g hg hn => (b5 g (Nat.lt_of_lt_of_le hg a4) (by simp)).trans (a5 g hg hn)⟩
      have hxm : w.heap.size ≠ m := by have := Hh.out.own.lt; omega
      have x4 : Vc.Vb w4 w.heap.size x.kind x.i x.s x.b := Wd.Bx.at_ Hx3.out (Hg4.out.block _ (Wd.Bx.lt Hx3.out) (by simpa using hxm))
      obtain ⟨⟨y0, y1, y2, y3⟩, -⟩ := Vc.four x4
      have c2 := b4.cell 2
      simp at c2
      rw [Hv.out] at c2
      have hcv := Wd.vals_new w4 x _ rfl
      have hz5 : ((w4.alloc (.cells #[.int .i64 x.kind, .int .i64 x.i, .string x.s, .bool x.b] 56)).drew).heap.size = w4.heap.size + 1 := by simp
      have r5 := (show ((w4.alloc (.cells #[.int .i64 x.kind, .int .i64 x.i, .string x.s, .bool x.b] 56)).drew).ownsRow 0 56 4 v L.length (Wd.flatV L) from r4.alloc (.cells #[.int .i64 x.kind, .int .i64 x.i, .string x.s, .bool x.b] 56))
      obtain ⟨A6, c6, w6, hrun6, r6, g6, l6⟩ := run_appV_at _ 45 0 v L r5 _ x hcv (by omega) (Nat.zero_le _)
      have b6 : Wd.Bx w6 d 151 #[.int .i64 (lim k), .map (some m), v] := (show Wd.Bx ((w4.alloc (.cells #[.int .i64 x.kind, .int .i64 x.i, .string x.s, .bool x.b] 56)).drew) d 151 #[.int .i64 (lim k), .map (some m), v] from b4.alloc _).at_ (g6.block d (by rw [hz5]; have := b4.lt; omega) (fun e => HL3.out.dv e.symm))
      have c6' := b6.cell 2
      have f6 := b6.free 2
      simp at c6'
      rw [Hv.out] at c6'
      obtain ⟨hT, hM⟩ := HL3.out.more x (Hown4.out.alloc _).drew (hgo _) r6 g6 l6
      have HT := Lib.hid hT
      have HMv := Lib.hid hM
      have c4 := (World.cell?_alloc_lt w4 (.cells #[.int .i64 x.kind, .int .i64 x.i, .string x.s, .bool x.b] 56) ⟨d, 2, none⟩ b4.lt).trans c2
      have hvx : some w.heap.size ≠ v.ownBlock := fun e => by have := (Wd.own_lt Hh.out.row e.symm).1; omega
      have hdx : w.heap.size ≠ d := by have := Hh.out.box.lt; omega
      have x5 := Wd.Bx.alloc x4 (.cells #[.int .i64 x.kind, .int .i64 x.i, .string x.s, .bool x.b] 56)
      have x6 : Vc.Vb w6 w.heap.size x.kind x.i x.s x.b := Wd.Bx.at_ (w := (w4.alloc (.cells #[.int .i64 x.kind, .int .i64 x.i, .string x.s, .bool x.b] 56)).drew) x5 (g6.block _ (Wd.Bx.lt x5) hvx)
      have hH5 := (Vc.four x5).1
      have hH6 := (Vc.four x6).1
      have hH7 := (Vc.four (Wd.Bx.other x6 (a := ⟨d, 2, none⟩) hdx (.slice A6 (L.length + 1) c6))).1
      rw [Hv.out] at hrun6
      have hrun6' := Lib.hid hrun6
      clear hrun6 hvx hdx x5 x6
      clear hgo hxm hcv r4 r5 r6 g6 l6 b4 b6 hT hM dlt hmd hz5 x4
      go_wp2_with fail
      have hH : w4.drew.cell? ⟨w.heap.size, 0, none⟩ = some (.int .i64 x.kind) ∧ w4.drew.cell? ⟨w.heap.size, 1, none⟩ = some (.int .i64 x.i) ∧ w4.drew.cell? ⟨w.heap.size, 2, none⟩ = some (.string x.s) ∧ w4.drew.cell? ⟨w.heap.size, 3, none⟩ = some (.bool x.b) := ⟨y0, y1, y2, y3⟩
      refine wp_region_any (by kernel_rfl) ?_
      refine wpAny_of_held (S := fun w' => w'.cell? ⟨w.heap.size, 0, none⟩ = some (.int .i64 x.kind) ∧ w'.cell? ⟨w.heap.size, 1, none⟩ = some (.int .i64 x.i) ∧ w'.cell? ⟨w.heap.size, 2, none⟩ = some (.string x.s) ∧ w'.cell? ⟨w.heap.size, 3, none⟩ = some (.bool x.b)) _ _ _ _ ?_
      change wpAnyH _ _ _ _ _ 11 (Array.replicate 11 false) _ w4.drew
      refine Rt.take (i := 0) (d := 45) (v := (.pointer (some ⟨d, 0, none⟩))) rfl rfl (by kernel_rfl) (by kernel_rfl) (by kernel_rfl) (fun _ _ _ h => h) (Or.inl ⟨by rfl, ?_⟩) hH ?_
      · rintro w' ⟨s0, s1, s2, s3⟩
        go_simp
      (try simp only [List.setIfInBounds_toArray, List.set_cons_zero, List.set_cons_succ])
      refine Rt.take (i := 1) (d := 46) (v := (.pointer (some ⟨d, 0, none⟩))) rfl rfl (by kernel_rfl) (by kernel_rfl) (by kernel_rfl) (fun _ _ _ h => h) (Or.inl ⟨by rfl, ?_⟩) hH ?_
      · rintro w' ⟨s0, s1, s2, s3⟩
        go_simp
      (try simp only [List.setIfInBounds_toArray, List.set_cons_zero, List.set_cons_succ])
      refine Rt.take (i := 2) (d := 47) (v := (.pointer (some ⟨d, 0, none⟩))) rfl rfl (by kernel_rfl) (by kernel_rfl) (by kernel_rfl) (fun _ _ _ h => h) (Or.inl ⟨by rfl, ?_⟩) hH ?_
      · rintro w' ⟨s0, s1, s2, s3⟩
        go_simp
      (try simp only [List.setIfInBounds_toArray, List.set_cons_zero, List.set_cons_succ])
      refine Rt.take (i := 3) (d := 48) (v := (.pointer (some ⟨d, 2, none⟩))) rfl rfl (by kernel_rfl) (by kernel_rfl) (by kernel_rfl) (fun _ _ _ h => h) (Or.inl ⟨by rfl, ?_⟩) hH ?_
      · rintro w' ⟨s0, s1, s2, s3⟩
        go_simp
      (try simp only [List.setIfInBounds_toArray, List.set_cons_zero, List.set_cons_succ])
      refine Rt.take (i := 5) (d := 50) (v := (.agg #[.int .i64 x.kind, .int .i64 x.i, .string x.s, .bool x.b])) rfl rfl (by kernel_rfl) (by kernel_rfl) (by kernel_rfl) (fun _ _ _ h => h) (Or.inl ⟨by rfl, ?_⟩) hH ?_
      · rintro w' ⟨s0, s1, s2, s3⟩
        go_simp
      (try simp only [List.setIfInBounds_toArray, List.set_cons_zero, List.set_cons_succ])
      refine wpAnyH_ready (rs := [4, 6]) (by kernel_rfl) (by simp) ?_
      refine AllReadyH.cons rfl (fun K hK => ?_) (AllReadyH.cons rfl (fun K hK => ?_) AllReadyH.nil)
      · go_simp
        refine hK.out _ _ hH (fun _ => ?_)
        clear hK K
        (try simp only [Act.put, List.setIfInBounds_toArray, List.set_cons_zero, List.set_cons_succ])
        refine wpAnyH_ready (rs := [6]) (by kernel_rfl) (by simp) ?_
        refine AllReadyH.cons rfl (fun K hK => ?_) AllReadyH.nil
        go_simp
        refine hK.out _ _ hH5 (fun _ => ?_)
        clear hK K
        (try simp only [Act.put, List.setIfInBounds_toArray, List.set_cons_zero, List.set_cons_succ])
        refine wpAnyH_ready (rs := [7]) (by kernel_rfl) (by simp) ?_
        refine AllReadyH.cons rfl (fun K hK => ?_) AllReadyH.nil
        refine step_run rfl (s := .tmp 49) (x := .tmp 51) rfl hrun6'.out ?_
        refine hK.out _ _ hH6 (fun _ => ?_)
        clear hK K
        (try simp only [Act.put, List.setIfInBounds_toArray])
        refine Rt.take (i := 8) (d := 53) (v := (.pointer (some ⟨d, 0, none⟩))) rfl rfl (by kernel_rfl) (by kernel_rfl) (by kernel_rfl) (fun _ _ _ h => h) (Or.inl ⟨by rfl, ?_⟩) hH6 ?_
        · rintro w' ⟨s0, s1, s2, s3⟩
          go_simp
        (try simp only [List.setIfInBounds_toArray, List.set_cons_zero, List.set_cons_succ])
        refine Rt.take (i := 9) (d := 54) (v := (.pointer (some ⟨d, 2, none⟩))) rfl rfl (by kernel_rfl) (by kernel_rfl) (by kernel_rfl) (fun _ _ _ h => h) (Or.inl ⟨by rfl, ?_⟩) hH6 ?_
        · rintro w' ⟨s0, s1, s2, s3⟩
          go_simp
        refine wpAnyH_ready (rs := [10]) (by kernel_rfl) (by simp) ?_
        refine AllReadyH.cons rfl (fun K hK => ?_) AllReadyH.nil
        go_simp
        refine hK.out _ _ hH7 (fun _ => ?_)
        clear hK K
        (try simp only [Act.put, List.setIfInBounds_toArray, List.set_cons_zero, List.set_cons_succ])
        refine wpAnyH_done (by kernel_rfl) ?_ _
        (try simp only [Exit.then])
        go_wp2_with fail
        go_ret2
        refine ⟨by rw [er.out]; rfl, (Wd.Mv.of_below hb3).then HMv.out, _, ⟨m, _, by rw [er.out]; exact HT.out⟩, ?_⟩
        rintro g (q | ⟨q1, q2⟩)
        · exact .inl q
        · exact .inr ⟨Nat.le_trans hb3.size q1, q2⟩
      · go_simp
        refine hK.out _ _ hH5 (fun _ => ?_)
        clear hK K
        (try simp only [Act.put, List.setIfInBounds_toArray, List.set_cons_zero, List.set_cons_succ])
        refine wpAnyH_ready (rs := [4]) (by kernel_rfl) (by simp) ?_
        refine AllReadyH.cons rfl (fun K hK => ?_) AllReadyH.nil
        go_simp
        refine hK.out _ _ hH5 (fun _ => ?_)
        clear hK K
        (try simp only [Act.put, List.setIfInBounds_toArray, List.set_cons_zero, List.set_cons_succ])
        refine wpAnyH_ready (rs := [7]) (by kernel_rfl) (by simp) ?_
        refine AllReadyH.cons rfl (fun K hK => ?_) AllReadyH.nil
        refine step_run rfl (s := .tmp 49) (x := .tmp 51) rfl hrun6'.out ?_
        refine hK.out _ _ hH6 (fun _ => ?_)
        clear hK K
        (try simp only [Act.put, List.setIfInBounds_toArray])
        refine Rt.take (i := 8) (d := 53) (v := (.pointer (some ⟨d, 0, none⟩))) rfl rfl (by kernel_rfl) (by kernel_rfl) (by kernel_rfl) (fun _ _ _ h => h) (Or.inl ⟨by rfl, ?_⟩) hH6 ?_
        · rintro w' ⟨s0, s1, s2, s3⟩
          go_simp
        (try simp only [List.setIfInBounds_toArray, List.set_cons_zero, List.set_cons_succ])
        refine Rt.take (i := 9) (d := 54) (v := (.pointer (some ⟨d, 2, none⟩))) rfl rfl (by kernel_rfl) (by kernel_rfl) (by kernel_rfl) (fun _ _ _ h => h) (Or.inl ⟨by rfl, ?_⟩) hH6 ?_
        · rintro w' ⟨s0, s1, s2, s3⟩
          go_simp
        refine wpAnyH_ready (rs := [10]) (by kernel_rfl) (by simp) ?_
        refine AllReadyH.cons rfl (fun K hK => ?_) AllReadyH.nil
        go_simp
        refine hK.out _ _ hH7 (fun _ => ?_)
        clear hK K
        (try simp only [Act.put, List.setIfInBounds_toArray, List.set_cons_zero, List.set_cons_succ])
        refine wpAnyH_done (by kernel_rfl) ?_ _
        (try simp only [Exit.then])
        go_wp2_with fail
        go_ret2
        refine ⟨by rw [er.out]; rfl, (Wd.Mv.of_below hb3).then HMv.out, _, ⟨m, _, by rw [er.out]; exact HT.out⟩, ?_⟩
        rintro g (q | ⟨q1, q2⟩)
        · exact .inl q
        · exact .inr ⟨Nat.le_trans hb3.size q1, q2⟩)
end
end Dt
end Go.Proofs.YtoibpbnebcoafaaGreat
namespace Go.Proofs.YtoibpbnebcoafaaGreat
open Go.Shelf
def Tryz.sortV_ren : Go.Shelf.Ren := ⟨fun | 6 => 139 | 15 => 133 | 14 => 156 | 28 => 153 | 29 => 154 | 20 => 163 | 21 => 164 | 22 => 165 | 23 => 166 | 24 => 167 | 25 => 168 | 26 => 169 | 27 => 170 | 46 => 172 | 47 => 159 | 48 => 160 | 49 => 173 | 50 => 174 | 57 => 175 | n => n, fun | 22 => 45 | 24 => 56 | 25 => 54 | 3 => 3 | 39 => 148 | 0 => 0 | 53 => 169 | 55 => 158 | 4 => 4 | 46 => 162 | 45 => 161 | 50 => 152 | 5 => 5 | 9 => 9 | 66 => 173 | 70 => 177 | 76 => 184 | 77 => 185 | n => n, fun | n => n⟩
theorem Tryz.sortV : Go.Proofs.SlLaysF0.n6 Tryz.prog Tryz.sortV_ren := {
  mixed := by kernel_rfl
  f6 := ⟨Tryz.f139.name, by decide, Tryz.func139.trans (congrArg some (by kernel_rfl))⟩
  f14 := ⟨Tryz.f156.name, by decide, Tryz.func156.trans (congrArg some (by kernel_rfl))⟩
  f15 := Tryz.func133.trans (congrArg some (by kernel_rfl))
  f20 := ⟨Tryz.f163.name, by decide, Tryz.func163.trans (congrArg some (by kernel_rfl))⟩
  f21 := ⟨Tryz.f164.name, by decide, Tryz.func164.trans (congrArg some (by kernel_rfl))⟩
  f22 := ⟨Tryz.f165.name, by decide, Tryz.func165.trans (congrArg some (by kernel_rfl))⟩
  f23 := ⟨Tryz.f166.name, by decide, Tryz.func166.trans (congrArg some (by kernel_rfl))⟩
  f24 := ⟨Tryz.f167.name, by decide, Tryz.func167.trans (congrArg some (by kernel_rfl))⟩
  f25 := ⟨Tryz.f168.name, by decide, Tryz.func168.trans (congrArg some (by kernel_rfl))⟩
  f26 := ⟨Tryz.f169.name, by decide, Tryz.func169.trans (congrArg some (by kernel_rfl))⟩
  f27 := ⟨Tryz.f170.name, by decide, Tryz.func170.trans (congrArg some (by kernel_rfl))⟩
  f28 := Tryz.func153.trans (congrArg some (by kernel_rfl))
  f29 := Tryz.func154.trans (congrArg some (by kernel_rfl))
  f46 := ⟨Tryz.f172.name, by decide, Tryz.func172.trans (congrArg some (by kernel_rfl))⟩
  f47 := Tryz.func159.trans (congrArg some (by kernel_rfl))
  f48 := Tryz.func160.trans (congrArg some (by kernel_rfl))
  f49 := ⟨Tryz.f173.name, by decide, Tryz.func173.trans (congrArg some (by kernel_rfl))⟩
  f50 := ⟨Tryz.f174.name, by decide, Tryz.func174.trans (congrArg some (by kernel_rfl))⟩
  f57 := ⟨Tryz.f175.name, by decide, Tryz.func175.trans (congrArg some (by kernel_rfl))⟩
  t0 := Tryz.underlying0
  a0 := Tryz.isAgg0
  z0 := Tryz.sizeOf0
  v0 := Tryz.zeroValue0
  t3 := Tryz.underlying3
  a3 := Tryz.isAgg3
  z3 := Tryz.sizeOf3
  v3 := Tryz.zeroValue3
  t4 := Tryz.underlying4
  a4 := Tryz.isAgg4
  z4 := Tryz.sizeOf4
  v4 := Tryz.zeroValue4
  t5 := Tryz.underlying5
  a5 := Tryz.isAgg5
  z5 := Tryz.sizeOf5
  v5 := Tryz.zeroValue5
  t9 := Tryz.underlying9
  a9 := Tryz.isAgg9
  z9 := Tryz.sizeOf9
  v9 := Tryz.zeroValue9
  t22 := Tryz.underlying45
  a22 := Tryz.isAgg45
  z22 := Tryz.sizeOf45
  v22 := Tryz.zeroValue45
  t25 := Tryz.underlying54
  a25 := Tryz.isAgg54
  z25 := Tryz.sizeOf54
  v25 := Tryz.zeroValue54
  t39 := Tryz.underlying148
  a39 := Tryz.isAgg148
  z39 := Tryz.sizeOf148
  v39 := Tryz.zeroValue148
  t45 := Tryz.underlying161
  a45 := Tryz.isAgg161
  z45 := Tryz.sizeOf161
  v45 := Tryz.zeroValue161
  t46 := Tryz.underlying162
  a46 := Tryz.isAgg162
  z46 := Tryz.sizeOf162
  v46 := Tryz.zeroValue162
  t50 := Tryz.underlying152
  a50 := Tryz.isAgg152
  z50 := Tryz.sizeOf152
  v50 := Tryz.zeroValue152
  t53 := Tryz.underlying169
  a53 := Tryz.isAgg169
  z53 := Tryz.sizeOf169
  v53 := Tryz.zeroValue169
  t55 := Tryz.underlying158
  a55 := Tryz.isAgg158
  z55 := Tryz.sizeOf158
  v55 := Tryz.zeroValue158
  t66 := Tryz.underlying173
  a66 := Tryz.isAgg173
  z66 := Tryz.sizeOf173
  v66 := Tryz.zeroValue173
  t70 := Tryz.underlying177
  a70 := Tryz.isAgg177
  z70 := Tryz.sizeOf177
  v70 := Tryz.zeroValue177
  t76 := Tryz.underlying184
  a76 := Tryz.isAgg184
  z76 := Tryz.sizeOf184
  v76 := Tryz.zeroValue184
  t77 := Tryz.underlying185
  a77 := Tryz.isAgg185
  z77 := Tryz.sizeOf185
  v77 := Tryz.zeroValue185 }
end Go.Proofs.YtoibpbnebcoafaaGreat
namespace Go.Proofs.YtoibpbnebcoafaaGreat
set_option maxRecDepth 20000
open Go.RowKit Go.Sort Go.Shelf Go.Lib
namespace Ds
open Va (Vl May ord null)
open Dc Dx
theorem ltOf_iff (x y : Vl) : ltOf ord x y = true ↔ ord x y < 0 := by unfold ltOf; simp
theorem ltOf_no (x y : Vl) : ltOf ord x y = false ↔ ¬ ord x y < 0 := by unfold ltOf; simp
theorem swo : SWO (ltOf ord) where
  irrefl x := (ltOf_no x x).2 (lt_irrefl x)
  trans x y z h1 h2 := (ltOf_iff x z).2 (lt_trans ((ltOf_iff x y).1 h1) ((ltOf_iff y z).1 h2))
  ntrans x y z h1 h2 := by
    rw [ltOf_no] at *
    have n1 := Va.ord_neg y x
    have n2 := Va.ord_neg z y
    have n3 := Va.ord_neg z x
    have := Va.ord_le_trans (a := z) (b := y) (c := x) (by omega) (by omega)
    omega
theorem lays (blk off size : Nat) (w : World) : CmpLays Tryz.prog 87 #[] Wd.vals 4 ord blk off size w :=
  fun _ _ _ _ x y => (Vc.order_grow x.kind x.i x.s x.b y.kind y.i y.s y.b _).mono fun _ _ h => ⟨h.1, Vc.grow_of h.2.1 h.2.2⟩
/-- A row of the call's own holds its list. -/
theorem holds {w : World} {B g n c : Nat} {L : List Vl} (h : w.ownsRow B 56 4 (.slice (some ⟨g, 0, none⟩) n c) n (Wd.flatV L)) : HoldsK Wd.vals 4 w g 0 L.toArray := by
  rcases h.2 with ⟨h', _⟩ | ⟨g', cap', cur, h', hb, hg, h2, h3, h4, h5⟩
  · cases h'
  · simp only [Value.slice.injEq, Option.some.injEq, Addr.mk.injEq, and_true, true_and] at h'
    obtain ⟨rfl, rfl⟩ := h'
    intro j hj
    rw [size_flatK] at hj
    have hj2 : j < L.length * 4 := by simpa using hj
    have hfl : (flatK Wd.vals 4 L.toArray)[j]! = (Wd.vals (L.getD (j / 4) default))[j % 4]! := by
      rw [get_flatK _ _ _ _ hj]
      congr 2
      simp [List.getD]
    have hi : (Wd.vals (L.getD (j / 4) default))[j % 4]? = some ((Wd.vals (L.getD (j / 4) default))[j % 4]!) := by
      have : j % 4 < (Wd.vals (L.getD (j / 4) default)).length := by simp [Wd.vals]; omega
      rw [List.getElem!_eq_getElem?_getD, List.getElem?_eq_getElem this]
      rfl
    have hf := Wd.flatV_get L (j / 4) (by omega) (j % 4) _ hi
    rw [show j / 4 * 4 + j % 4 = j by omega] at hf
    refine ⟨?_, ?_⟩
    · rw [Nat.zero_add, h.cellAt j (by have := h.1; rw [Wd.flatV_len] at this; omega), hf, hfl]
      rfl
    · unfold World.frozen?
      simp only [hg]
      simp
/-- What holds a list is a slice of it. -/
theorem vs_of {w : World} {g n c : Nat} {L : List Vl} (h : HoldsK Wd.vals 4 w g 0 L.toArray) (hg : g < w.heap.size) (hn : n = L.length) (hc : n ≤ c) (hm : c ≤ maxLen) (h1 : ∀ j, j < L.length → Wd.V1 (L.getD j default)) : Wd.Vs w (some ⟨g, 0, none⟩) n c L :=
  ⟨hn, hc, hm, by simp, fun j hj => ⟨g, 0, rfl, hg, fun i v hv => by
    have hi : i < 4 := by have := (List.getElem?_eq_some_iff.1 hv).1; simpa [Wd.vals] using this
    have := (h.cell (i := j) (c := i) (by simpa using hj) hi).1
    rw [show 0 + j * 4 + i = 0 + (j * 4 + i) by omega] at this
    rw [this]
    have e : L.toArray[j]! = L.getD j default := by simp [List.getD]
    rw [e, ← hv, List.getElem!_eq_getElem?_getD, List.getElem?_eq_getElem (by simpa [Wd.vals] using hi)]
    rfl, h1 j hj⟩⟩
/-- Sorted, as a list. -/
theorem sorted_list {L : List Vl} {d' : Array Vl} (hm : ∀ x ∈ L, May x) (hn : L.Nodup) (hp : PermIn 0 L.toArray.size L.toArray d') (hs : SortedIn (ltOf ord) 0 L.toArray.size d') : d'.toList = srt L := by
  obtain ⟨h1, _, h3⟩ := hp
  have h1' : d'.size = L.length := by simpa using h1
  have e1 : (d'.extract 0 L.toArray.size).toList = d'.toList := by
    rw [show L.toArray.size = d'.size from h1.symm]
    simp
  have e2 : (L.toArray.extract 0 L.toArray.size).toList = L := by simp
  rw [e1, e2] at h3
  refine srt_only hm hn h3 ?_
  rw [List.pairwise_iff_getElem]
  intro i j hi hj hij
  have := hs i j (Nat.zero_le _) hij (by simpa [← h1'] using hj)
  rw [ltOf_no] at this
  have a1 : d'[i]! = d'.toList[i] := by rw [getElem!_pos d' i (by simpa using hi)]; simp
  have a2 : d'[j]! = d'.toList[j] := by rw [getElem!_pos d' j (by simpa using hj)]; simp
  rw [a1, a2] at this
  have n := Va.ord_neg (d'.toList[j]) (d'.toList[i])
  omega
theorem isAggV (w : World) : (isAgg 56).run Tryz.prog w = .ok true w := Tryz.isAgg56 w
theorem sizeV (w : World) : (Go.sizeOf 56).run Tryz.prog w = .ok 4 w := Tryz.sizeOf56 w
/-- The sort of a row of values. -/
theorem sort_any (B g n c : Nat) (L : List Vl) (w : World) (hown : w.ownsRow B 56 4 (.slice (some ⟨g, 0, none⟩) n c) n (Wd.flatV L)) (h1 : ∀ x ∈ L, Wd.V1 x) (hm : ∀ x ∈ L, May x) (hn : L.Nodup) (hl : L.length ≤ 4096) :
    Calls Tryz.prog 139 #[.slice (some ⟨g, 0, none⟩) n c, .func (.func 87) #[] #[]] w fun e w' => e = .returned (.tuple #[]) ∧ Wd.Vs w' (some ⟨g, 0, none⟩) n c (srt L) ∧ w.grownBy w' (some g) := by
  have hlen : n = L.length := by have := hown.1; rw [Wd.flatV_len] at this; omega
  have eg : ∀ args w, (callFunc 87 args).run Tryz.prog w = .ok (.enter 87 args) w := enters_of Tryz.func87 (by kernel_rfl) rfl
  have hH := holds hown
  have hg : g < w.heap.size := (Wd.own_lt hown (x := g) rfl).1
  have hcc : n ≤ c ∧ c ≤ maxLen := by
    rcases hown.2 with ⟨h', _⟩ | ⟨g', cap', cur, h', hb, hg, h2, h3, h4, h5⟩
    · cases h'
    · simp only [Value.slice.injEq] at h'
      obtain ⟨_, _, rfl⟩ := h'
      exact ⟨h2, h3⟩
  have hcon := AnyQ.slices_SortFunc Tryz.sortV 4 isAggV sizeV Wd.vals (fun _ => rfl) (fun x v hv => Wd.vals_one x v hv) ord swo 87 #[] g 0 c L.toArray w eg (lays g 0 L.toArray.size w) hH hg (by simp; omega)
  change Calls Tryz.prog 139 _ _ _ at hcon
  rw [show L.toArray.size = n by simp [hlen]] at hcon
  refine hcon.mono ?_
  rintro e w' ⟨rfl, d', q, os, hp, hs, rfl⟩
  have hd : d'.toList = srt L := sorted_list hm hn (by rw [show L.toArray.size = n by simp [hlen]]; exact hp) (by rw [show L.toArray.size = n by simp [hlen]]; exact hs)
  have hds : d' = (srt L).toArray := by rw [← hd]
  subst hds
  refine ⟨rfl, ?_, ?_⟩
  · refine vs_of (holdsK_sortWorldK_c Wd.vals 4 w g 0 L.toArray _ q os hH hg (by simp [srt_len])) ?_ (by rw [srt_len]; exact hlen) hcc.1 hcc.2 fun j hj => h1 _ ?_
    · unfold sortWorldK
      rw [size_grow]
      have : (putRowK Wd.vals 4 (Sort.ahead w q) g 0 (srt L).toArray).heap.size = w.heap.size := by simp [putRowK, putRow, mapBlock]
      omega
    · rw [← srt_mem L, List.getD_eq_getElem?_getD, List.getElem?_eq_getElem hj]
      exact List.getElem_mem hj
  · refine ⟨rfl, rfl, rfl, by simp [sortWorldK, putRowK, putRow, mapBlock], fun j hj hne => ?_⟩
    unfold sortWorldK
    rw [heap_grow_old _ _ (by simpa [putRowK, putRow, mapBlock] using hj)]
    have : g ≠ j := fun e => hne (by rw [e])
    simp [putRowK, putRow, mapBlock, Sort.ahead, Array.getElem?_modify, this]
end Ds
end Go.Proofs.YtoibpbnebcoafaaGreat
