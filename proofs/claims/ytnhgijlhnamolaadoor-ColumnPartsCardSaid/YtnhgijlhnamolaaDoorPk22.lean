/- What Add of package dict does. What value.own and value.Order leave of the world: blocks of their own behind it, and draws. -/
import Derived.Deep.RegionWith
import Derived.Deep.QuietTactic
import Derived.BigQuiet
import Derived.Sort.Grow
import Derived.Test.YtnhgijlhnamolaaDoorPk21
import Derived.Test.YtnhgijlhnamolaaDoorPk09
import Derived.Test.YtnhgijlhnamolaaDoorPk12
namespace Go.Proofs.YtnhgijlhnamolaaDoor
set_option maxRecDepth 20000
open Go.RowKit Go.Maps
namespace Dt
open Va (Vl May ord null)
open Vc (mayB mayB_iff may_any)
open Sc (tr tr_yes tr_no tr_iff)
open Dc Dx
/-- append of one value: its run, and where the row lies then. -/
theorem run_appV_at (w : World) (ty : TypeId) (B : Nat) (v : Value) (L : List Vl) (hown : w.ownsRow B 48 4 v L.length (Wd.flatV L)) (ad : Addr) (o : Vl) (hc : ∀ j u, (Wd.vals o)[j]? = some u → w.cell? (ad.add j) = some u) (hL : L.length ≤ 1000000) (hB : B ≤ w.heap.size) :
    ∃ A c w', (Builtin.append_ #[22, 22] ty #[v, .slice (some ad) 1 1]).run Tryd.prog w = .ok (.slice A (L.length + 1) c) w' ∧ w'.ownsRow B 48 4 (.slice A (L.length + 1) c) (L ++ [o]).length (Wd.flatV (L ++ [o])) ∧ w.grownBy w' v.ownBlock ∧ ((Value.slice A (L.length + 1) c).ownBlock = v.ownBlock ∨ (Value.slice A (L.length + 1) c).ownBlock = some w.heap.size) := by
  obtain ⟨i0, hi, hz0, hz1, hz2⟩ := info_parts Wd.info_vl
  obtain ⟨v', w', hrun, h2, h3, _, h5⟩ := run_append_own_at (P := Tryd.prog) w B 22 ty 48 i0 _ 4 40 Tryd.underlying22 hi hz0 hz1 hz2 rfl (by decide) v L.length _ hown ad 1 1 (Wd.vals o) rfl hc (Wd.vals_one o) (by unfold maxLen; omega) (by omega) hB
  obtain ⟨A, c, rfl⟩ := own_shape h2
  exact ⟨A, c, w', hrun, by rw [List.length_append, Wd.flatV_app, Wd.flatV_one]; exact h2, h3, h5⟩
/-- An append whose run is known, as a step of a region. -/
theorem step_run {w w' : World} {ops : Array Oper} {o : Oper} {a : Act} {K : Act → World → Prop} {Q : Exit → Act → World → Prop} {E : Prop} (hgd : o.guard = none) {s x : Operand} {v : Value}
    (ho : o.op = .call { callee := .builtin .append, args := #[s, x], argTypes := #[22, 22] })
    (hrun : (Builtin.append_ #[22, 22] o.type #[a.eval s, a.eval x]).run Tryd.prog w = .ok v w') (h : K (a.put o.dst v) w') : if Region.wanted o (yielded ops a.tmps) = true then Oper.wp Tryd.prog o a w K Q else E := by
  rw [if_pos (by simp [Region.wanted, hgd])]
  unfold Oper.wp
  simp [execOp, ho, resolve, invoke, builtin, hrun, Result.andThen]
  exact h
section
variable {w : World} {d m : Nat} {v : Value} {L : List Vl} {k : Int} {G : Nat → Prop}
set_option maxHeartbeats 4000000 in
theorem add_any (x : Vl) (h : Lay w d m v L k G) (hd : Dis L k) (ho : ∀ y ∈ L, Okv y) (hx : Okv x) :
    Calls Tryd.prog 47 #[pt d, .agg #[.int .i64 x.kind, .int .i64 x.i, .string x.s, .bool x.b]] w fun e w' => e = .returned (.tuple #[.int .i64 (add L k x).2.1, .int .i64 (add L k x).2.2]) ∧ Wd.Mv G w w' ∧ ∃ G', D w' d (add L k x).1 k G' ∧ ∀ g, G' g → Wd.Gr G w w' g := by
  have hb0 := (Below.refl w.heap.size w).alloc (Nat.le_refl _) (.cells #[.int .i64 x.kind, .int .i64 x.i, .string x.s, .bool x.b] 48)
  have x0 : Vc.Vb (w.alloc (.cells #[.int .i64 x.kind, .int .i64 x.i, .string x.s, .bool x.b] 48)) w.heap.size x.kind x.i x.s x.b := Wd.Bx.new w _ _
  have Hh := Lib.hid h
  have Cm := Lib.hid (may_any x.kind x.i x.s x.b (w.alloc (.cells #[.int .i64 x.kind, .int .i64 x.i, .string x.s, .bool x.b] 48)))
  have Cf := Lib.hid fun w' (h' : Lay w' d m v L k G) => find_any x h' hd ho hx
  have Hd := Lib.hid hd
  have Ho := Lib.hid ho
  have Hx := Lib.hid hx
  have Hx0 := Lib.hid x0
  obtain ⟨r, hr⟩ : ∃ r, r = add L k x := ⟨_, rfl⟩
  rw [← hr]
  have Hr := Lib.hid hr
  have same : ∀ w' : World, Below w.heap.size w w' → r.1 = L → Wd.Mv G w w' ∧ ∃ G', D w' d r.1 k G' ∧ ∀ g, G' g → Wd.Gr G w w' g := fun w' hb e => by
    rw [e]
    exact ⟨Wd.Mv.of_below hb, G, ⟨m, v, Hh.out.below hb⟩, fun g hg => .inl hg⟩
  have Same := Lib.hid same
  clear h hd ho hx x0 hr same
  by_cases hM : May x
  case neg =>
    have em : mayB x.kind x.i x.s x.b = false := by
      cases q : mayB x.kind x.i x.s x.b
      · rfl
      · exact absurd ((mayB_iff _ _ _ _).1 q) hM
    rw [em] at Cm
    have er := Lib.hid (Hr.out.trans (add_bad hM))
    clear em hM
    go_enter Tryd.func47, Tryd.ntmps47
    obtain ⟨⟨y0, y1, y2, y3⟩, -⟩ := Vc.four Hx0.out
    go_wp2_with fail
    refine Cm.out.mono ?_
    rintro e w1 ⟨rfl, hB1⟩
    have hb1 := hb0.trans (hB1.mono hb0.size)
    go_wp2_with fail
    go_ret2
    exact ⟨by rw [er.out]; rfl, Same.out _ hb1 (by rw [er.out])⟩
  have em : mayB x.kind x.i x.s x.b = true := (mayB_iff _ _ _ _).2 hM
  rw [em] at Cm
  have HM := Lib.hid hM
  clear em hM
  by_cases hin : x ∈ L
  · have er := Lib.hid (Hr.out.trans (add_old HM.out hin))
    rw [if_pos hin, decide_eq_true hin] at Cf
    clear hin
    go_enter Tryd.func47, Tryd.ntmps47
    obtain ⟨⟨y0, y1, y2, y3⟩, -⟩ := Vc.four Hx0.out
    go_wp2_with fail
    generalize w.alloc (.cells #[.int .i64 x.kind, .int .i64 x.i, .string x.s, .bool x.b] 48) = wa at *
    refine Cm.out.mono ?_
    rintro e w1 ⟨rfl, hB1⟩
    have hb1 := hb0.trans (hB1.mono hb0.size)
    have Hx1 := Lib.hid (Hx0.out.below (Wd.Bx.lt Hx0.out) hB1)
    clear y0 y1 y2 y3 Cm Hx0 hB1 hb0
    obtain ⟨⟨y0, y1, y2, y3⟩, -⟩ := Vc.four Hx1.out
    go_wp2_with fail
    refine (Cf.out _ (Hh.out.below hb1)).mono ?_
    rintro e w2 ⟨rfl, hB2⟩
    have hb2 := hb1.trans (hB2.mono hb1.size)
    go_wp2_with fail
    go_ret2
    exact ⟨by rw [er.out]; rfl, Same.out _ hb2 (by rw [er.out])⟩
  rw [if_neg hin, decide_eq_false hin] at Cf
  have Hin := Lib.hid hin
  clear hin
  obtain ⟨A, c, hv⟩ := own_shape Hh.out.row
  have Hv := Lib.hid hv
  have cells := fun w' (hb : Below w.heap.size w w') => by
    have hl := Hh.out.below hb
    have c0 := hl.box.cell 0
    have c1 := hl.box.cell 1
    have c2 := hl.box.cell 2
    have f2 := hl.box.free 2
    simp at c0 c1 c2
    rw [Hv.out] at c2
    exact (⟨c0, c1, c2, f2⟩ : _ ∧ _ ∧ _ ∧ _)
  have Cells := Lib.hid cells
  have hlb := lim_bd k
  have hdl := Hd.out.len
  clear hv cells
  by_cases hl : lim k ≤ L.length
  · have er := Lib.hid (Hr.out.trans (add_full HM.out Hin.out hl))
    have hle : (L.length : Int) = lim k := by omega
    have Hle := Lib.hid hle
    clear hl hle hlb hdl
    rw [← Hle.out] at Cells
    go_enter Tryd.func47, Tryd.ntmps47
    obtain ⟨⟨y0, y1, y2, y3⟩, -⟩ := Vc.four Hx0.out
    go_wp2_with fail
    generalize w.alloc (.cells #[.int .i64 x.kind, .int .i64 x.i, .string x.s, .bool x.b] 48) = wa at *
    refine Cm.out.mono ?_
    rintro e w1 ⟨rfl, hB1⟩
    have hb1 := hb0.trans (hB1.mono hb0.size)
    have Hx1 := Lib.hid (Hx0.out.below (Wd.Bx.lt Hx0.out) hB1)
    clear y0 y1 y2 y3 Cm Hx0 hB1 hb0
    obtain ⟨⟨y0, y1, y2, y3⟩, -⟩ := Vc.four Hx1.out
    go_wp2_with fail
    refine (Cf.out _ (Hh.out.below hb1)).mono ?_
    rintro e w2 ⟨rfl, hB2⟩
    have hb2 := hb1.trans (hB2.mono hb1.size)
    clear y0 y1 y2 y3
    obtain ⟨c0, c1, c2, f2⟩ := Cells.out _ hb2
    go_wp2_with fail
    go_quiet (fail)
    go_wp2_with fail
    go_ret2
    exact ⟨by rw [er.out]; rfl, Same.out _ (Wd.below_drewN hb2 _) (by rw [er.out])⟩
  · have er := Lib.hid (Hr.out.trans (add_new HM.out Hin.out (by omega)))
    have hle : ((L.length : Int) == lim k) = false := by
      have : ¬ (L.length : Int) = lim k := by omega
      simpa using this
    have hL4 : L.length ≤ 4096 := by omega
    clear hl hlb hdl
    go_enter Tryd.func47, Tryd.ntmps47
    obtain ⟨⟨y0, y1, y2, y3⟩, -⟩ := Vc.four Hx0.out
    go_wp2_with fail
    generalize w.alloc (.cells #[.int .i64 x.kind, .int .i64 x.i, .string x.s, .bool x.b] 48) = wa at *
    refine Cm.out.mono ?_
    rintro e w1 ⟨rfl, hB1⟩
    have hb1 := hb0.trans (hB1.mono hb0.size)
    have Hx1 := Lib.hid (Hx0.out.below (Wd.Bx.lt Hx0.out) hB1)
    clear y0 y1 y2 y3 Cm Hx0 hB1 hb0
    obtain ⟨⟨y0, y1, y2, y3⟩, -⟩ := Vc.four Hx1.out
    go_wp2_with fail
    refine (Cf.out _ (Hh.out.below hb1)).mono ?_
    rintro e w2 ⟨rfl, hB2⟩
    have hb2 := hb1.trans (hB2.mono hb1.size)
    have Hx2 := Lib.hid (Hx1.out.below (Wd.Bx.lt Hx1.out) hB2)
    clear y0 y1 y2 y3 Hx1 hB2
    obtain ⟨c0, c1, c2, f2⟩ := Cells.out _ hb2
    go_wp2_with fail
    go_quiet (fail)
    go_wp2_with fail
    have hb3 : Below w.heap.size w (w2.drewN nq) := Wd.below_drewN hb2 _
    have hx3 : Below w2.heap.size w2 (w2.drewN nq) := Wd.below_drewN (Below.refl _ _) _
    have Hx3 := Lib.hid (Hx2.out.below (Wd.Bx.lt Hx2.out) hx3)
    clear c0 c1 c2 f2 Hx2 hb2 hx3
    generalize w2.drewN nq = w3 at *
    have hL3 := Hh.out.below hb3
    obtain ⟨w4, hrun, hown4, hg4⟩ := hL3.own.drew.update Dm.law Tryd.underlying103 (by unfold maxLen; omega) (Dm.key_of Hx.out.1 Hx.out.2) (plainElem_int (H := Unit) Tryd.underlying3 (a := (L.length : Int)) (by simp [Lit.wf, IntKind.min, IntKind.max, IntKind.signed, IntKind.bits]; omega))
    obtain ⟨c0, c1, c2, f2⟩ := Cells.out _ hb3
    obtain ⟨⟨y0, y1, y2, y3⟩, -⟩ := Vc.four Hx3.out
    have HL3 := Lib.hid hL3
    have Hown4 := Lib.hid hown4
    have Hg4 := Lib.hid (show w3.grownBy w4 (some m) by obtain ⟨a1, a2, a3, a4, a5⟩ := hg4; exact ⟨a1, a2, a3, a4, a5⟩)
    clear hL3 hown4 hg4
    go_region
    all_goals (
      clear c0 c1 c2 f2 y0 y1 y2 y3 hrun
      have dlt := HL3.out.box.lt
      have hmd := HL3.out.md
      have b4 : Wd.Bx w4 d 105 #[.int .i64 (lim k), .map (some m), v] := HL3.out.box.at_ (Hg4.out.block d dlt (by simpa using hmd.symm))
      have r4 := Wd.own_keep HL3.out.row fun y hy => Hg4.out.block y (Wd.own_lt HL3.out.row hy).1 (fun e => HL3.out.mv (by rw [hy]; exact e))
      have hgo : ∀ o : Obj, w3.grownBy (w4.alloc o).drew (some m) := fun o => by
        obtain ⟨a1, a2, a3, a4, a5⟩ := Hg4.out
        obtain ⟨b1, b2, b3, b4, b5⟩ := World.grownBy_alloc w4 o none
        exact ⟨b1.trans a1, b2.trans a2, b3.trans a3, Nat.le_trans a4 b4, fun g hg hn => (b5 g (Nat.lt_of_lt_of_le hg a4) (by simp)).trans (a5 g hg hn)⟩
      have hxm : w.heap.size ≠ m := by have := Hh.out.own.lt; omega
      have x4 : Vc.Vb w4 w.heap.size x.kind x.i x.s x.b := Wd.Bx.at_ Hx3.out (Hg4.out.block _ (Wd.Bx.lt Hx3.out) (by simpa using hxm))
      obtain ⟨⟨y0, y1, y2, y3⟩, -⟩ := Vc.four x4
      have c2 := b4.cell 2
      simp at c2
      rw [Hv.out] at c2
      have hcv := Wd.vals_new w4 x _ rfl
      have hz5 : ((w4.alloc (.cells #[.int .i64 x.kind, .int .i64 x.i, .string x.s, .bool x.b] 48)).drew).heap.size = w4.heap.size + 1 := by simp
      have r5 := (show ((w4.alloc (.cells #[.int .i64 x.kind, .int .i64 x.i, .string x.s, .bool x.b] 48)).drew).ownsRow 0 48 4 v L.length (Wd.flatV L) from r4.alloc (.cells #[.int .i64 x.kind, .int .i64 x.i, .string x.s, .bool x.b] 48))
      obtain ⟨A6, c6, w6, hrun6, r6, g6, l6⟩ := run_appV_at _ 22 0 v L r5 _ x hcv (by omega) (Nat.zero_le _)
      have b6 : Wd.Bx w6 d 105 #[.int .i64 (lim k), .map (some m), v] := (show Wd.Bx ((w4.alloc (.cells #[.int .i64 x.kind, .int .i64 x.i, .string x.s, .bool x.b] 48)).drew) d 105 #[.int .i64 (lim k), .map (some m), v] from b4.alloc _).at_ (g6.block d (by rw [hz5]; have := b4.lt; omega) (fun e => HL3.out.dv e.symm))
      have c6' := b6.cell 2
      have f6 := b6.free 2
      simp at c6'
      rw [Hv.out] at c6'
      obtain ⟨hT, hM⟩ := HL3.out.more x (Hown4.out.alloc _).drew (hgo _) r6 g6 l6
      have HT := Lib.hid hT
      have HMv := Lib.hid hM
      have c4 := (World.cell?_alloc_lt w4 (.cells #[.int .i64 x.kind, .int .i64 x.i, .string x.s, .bool x.b] 48) ⟨d, 2, none⟩ b4.lt).trans c2
      have hvx : some w.heap.size ≠ v.ownBlock := fun e => by have := (Wd.own_lt Hh.out.row e.symm).1; omega
      have hdx : w.heap.size ≠ d := by have := Hh.out.box.lt; omega
      have x5 := Wd.Bx.alloc x4 (.cells #[.int .i64 x.kind, .int .i64 x.i, .string x.s, .bool x.b] 48)
      have x6 : Vc.Vb w6 w.heap.size x.kind x.i x.s x.b := Wd.Bx.at_ (w := (w4.alloc (.cells #[.int .i64 x.kind, .int .i64 x.i, .string x.s, .bool x.b] 48)).drew) x5 (g6.block _ (Wd.Bx.lt x5) hvx)
      have hH5 := (Vc.four x5).1
      have hH6 := (Vc.four x6).1
      have hH7 := (Vc.four (Wd.Bx.other x6 (a := ⟨d, 2, none⟩) hdx (.slice A6 (L.length + 1) c6))).1
      rw [Hv.out] at hrun6
      have hrun6' := Lib.hid hrun6
      clear hrun6 hvx hdx x5 x6
      clear hgo hxm hcv r4 r5 r6 g6 l6 b4 b6 hT hM dlt hmd hz5 x4
      go_wp2_with fail
      have hH : w4.drew.cell? ⟨w.heap.size, 0, none⟩ = some (.int .i64 x.kind) ∧ w4.drew.cell? ⟨w.heap.size, 1, none⟩ = some (.int .i64 x.i) ∧ w4.drew.cell? ⟨w.heap.size, 2, none⟩ = some (.string x.s) ∧ w4.drew.cell? ⟨w.heap.size, 3, none⟩ = some (.bool x.b) := ⟨y0, y1, y2, y3⟩
      refine wp_region_any (by kernel_rfl) ?_
      refine wpAny_of_held (S := fun w' => w'.cell? ⟨w.heap.size, 0, none⟩ = some (.int .i64 x.kind) ∧ w'.cell? ⟨w.heap.size, 1, none⟩ = some (.int .i64 x.i) ∧ w'.cell? ⟨w.heap.size, 2, none⟩ = some (.string x.s) ∧ w'.cell? ⟨w.heap.size, 3, none⟩ = some (.bool x.b)) _ _ _ _ ?_
      change wpAnyH _ _ _ _ _ 11 (Array.replicate 11 false) _ w4.drew
      refine Rt.take (i := 0) (d := 45) (v := (.pointer (some ⟨d, 0, none⟩))) rfl rfl (by kernel_rfl) (by kernel_rfl) (by kernel_rfl) (fun _ _ _ h => h) (Or.inl ⟨by rfl, ?_⟩) hH ?_
      · rintro w' ⟨s0, s1, s2, s3⟩
        go_simp
      (try simp only [List.setIfInBounds_toArray, List.set_cons_zero, List.set_cons_succ])
      refine Rt.take (i := 1) (d := 46) (v := (.pointer (some ⟨d, 0, none⟩))) rfl rfl (by kernel_rfl) (by kernel_rfl) (by kernel_rfl) (fun _ _ _ h => h) (Or.inl ⟨by rfl, ?_⟩) hH ?_
      · rintro w' ⟨s0, s1, s2, s3⟩
        go_simp
      (try simp only [List.setIfInBounds_toArray, List.set_cons_zero, List.set_cons_succ])
      refine Rt.take (i := 2) (d := 47) (v := (.pointer (some ⟨d, 0, none⟩))) rfl rfl (by kernel_rfl) (by kernel_rfl) (by kernel_rfl) (fun _ _ _ h => h) (Or.inl ⟨by rfl, ?_⟩) hH ?_
      · rintro w' ⟨s0, s1, s2, s3⟩
        go_simp
      (try simp only [List.setIfInBounds_toArray, List.set_cons_zero, List.set_cons_succ])
      refine Rt.take (i := 3) (d := 48) (v := (.pointer (some ⟨d, 2, none⟩))) rfl rfl (by kernel_rfl) (by kernel_rfl) (by kernel_rfl) (fun _ _ _ h => h) (Or.inl ⟨by rfl, ?_⟩) hH ?_
      · rintro w' ⟨s0, s1, s2, s3⟩
        go_simp
      (try simp only [List.setIfInBounds_toArray, List.set_cons_zero, List.set_cons_succ])
      refine Rt.take (i := 5) (d := 50) (v := (.agg #[.int .i64 x.kind, .int .i64 x.i, .string x.s, .bool x.b])) rfl rfl (by kernel_rfl) (by kernel_rfl) (by kernel_rfl) (fun _ _ _ h => h) (Or.inl ⟨by rfl, ?_⟩) hH ?_
      · rintro w' ⟨s0, s1, s2, s3⟩
        go_simp
      (try simp only [List.setIfInBounds_toArray, List.set_cons_zero, List.set_cons_succ])
      refine wpAnyH_ready (rs := [4, 6]) (by kernel_rfl) (by simp) ?_
      refine AllReadyH.cons rfl (fun K hK => ?_) (AllReadyH.cons rfl (fun K hK => ?_) AllReadyH.nil)
      · go_simp
        refine hK.out _ _ hH (fun _ => ?_)
        clear hK K
        (try simp only [Act.put, List.setIfInBounds_toArray, List.set_cons_zero, List.set_cons_succ])
        refine wpAnyH_ready (rs := [6]) (by kernel_rfl) (by simp) ?_
        refine AllReadyH.cons rfl (fun K hK => ?_) AllReadyH.nil
        go_simp
        refine hK.out _ _ hH5 (fun _ => ?_)
        clear hK K
        (try simp only [Act.put, List.setIfInBounds_toArray, List.set_cons_zero, List.set_cons_succ])
        refine wpAnyH_ready (rs := [7]) (by kernel_rfl) (by simp) ?_
        refine AllReadyH.cons rfl (fun K hK => ?_) AllReadyH.nil
        refine step_run rfl (s := .tmp 49) (x := .tmp 51) rfl hrun6'.out ?_
        refine hK.out _ _ hH6 (fun _ => ?_)
        clear hK K
        (try simp only [Act.put, List.setIfInBounds_toArray])
        refine Rt.take (i := 8) (d := 53) (v := (.pointer (some ⟨d, 0, none⟩))) rfl rfl (by kernel_rfl) (by kernel_rfl) (by kernel_rfl) (fun _ _ _ h => h) (Or.inl ⟨by rfl, ?_⟩) hH6 ?_
        · rintro w' ⟨s0, s1, s2, s3⟩
          go_simp
        (try simp only [List.setIfInBounds_toArray, List.set_cons_zero, List.set_cons_succ])
        refine Rt.take (i := 9) (d := 54) (v := (.pointer (some ⟨d, 2, none⟩))) rfl rfl (by kernel_rfl) (by kernel_rfl) (by kernel_rfl) (fun _ _ _ h => h) (Or.inl ⟨by rfl, ?_⟩) hH6 ?_
        · rintro w' ⟨s0, s1, s2, s3⟩
          go_simp
        refine wpAnyH_ready (rs := [10]) (by kernel_rfl) (by simp) ?_
        refine AllReadyH.cons rfl (fun K hK => ?_) AllReadyH.nil
        go_simp
        refine hK.out _ _ hH7 (fun _ => ?_)
        clear hK K
        (try simp only [Act.put, List.setIfInBounds_toArray, List.set_cons_zero, List.set_cons_succ])
        refine wpAnyH_done (by kernel_rfl) ?_ _
        (try simp only [Exit.then])
        go_wp2_with fail
        go_ret2
        refine ⟨by rw [er.out]; rfl, (Wd.Mv.of_below hb3).then HMv.out, _, ⟨m, _, by rw [er.out]; exact HT.out⟩, ?_⟩
        rintro g (q | ⟨q1, q2⟩)
        · exact .inl q
        · exact .inr ⟨Nat.le_trans hb3.size q1, q2⟩
      · go_simp
        refine hK.out _ _ hH5 (fun _ => ?_)
        clear hK K
        (try simp only [Act.put, List.setIfInBounds_toArray, List.set_cons_zero, List.set_cons_succ])
        refine wpAnyH_ready (rs := [4]) (by kernel_rfl) (by simp) ?_
        refine AllReadyH.cons rfl (fun K hK => ?_) AllReadyH.nil
        go_simp
        refine hK.out _ _ hH5 (fun _ => ?_)
        clear hK K
        (try simp only [Act.put, List.setIfInBounds_toArray, List.set_cons_zero, List.set_cons_succ])
        refine wpAnyH_ready (rs := [7]) (by kernel_rfl) (by simp) ?_
        refine AllReadyH.cons rfl (fun K hK => ?_) AllReadyH.nil
        refine step_run rfl (s := .tmp 49) (x := .tmp 51) rfl hrun6'.out ?_
        refine hK.out _ _ hH6 (fun _ => ?_)
        clear hK K
        (try simp only [Act.put, List.setIfInBounds_toArray])
        refine Rt.take (i := 8) (d := 53) (v := (.pointer (some ⟨d, 0, none⟩))) rfl rfl (by kernel_rfl) (by kernel_rfl) (by kernel_rfl) (fun _ _ _ h => h) (Or.inl ⟨by rfl, ?_⟩) hH6 ?_
        · rintro w' ⟨s0, s1, s2, s3⟩
          go_simp
        (try simp only [List.setIfInBounds_toArray, List.set_cons_zero, List.set_cons_succ])
        refine Rt.take (i := 9) (d := 54) (v := (.pointer (some ⟨d, 2, none⟩))) rfl rfl (by kernel_rfl) (by kernel_rfl) (by kernel_rfl) (fun _ _ _ h => h) (Or.inl ⟨by rfl, ?_⟩) hH6 ?_
        · rintro w' ⟨s0, s1, s2, s3⟩
          go_simp
        refine wpAnyH_ready (rs := [10]) (by kernel_rfl) (by simp) ?_
        refine AllReadyH.cons rfl (fun K hK => ?_) AllReadyH.nil
        go_simp
        refine hK.out _ _ hH7 (fun _ => ?_)
        clear hK K
        (try simp only [Act.put, List.setIfInBounds_toArray, List.set_cons_zero, List.set_cons_succ])
        refine wpAnyH_done (by kernel_rfl) ?_ _
        (try simp only [Exit.then])
        go_wp2_with fail
        go_ret2
        refine ⟨by rw [er.out]; rfl, (Wd.Mv.of_below hb3).then HMv.out, _, ⟨m, _, by rw [er.out]; exact HT.out⟩, ?_⟩
        rintro g (q | ⟨q1, q2⟩)
        · exact .inl q
        · exact .inr ⟨Nat.le_trans hb3.size q1, q2⟩)
end
end Dt
end Go.Proofs.YtnhgijlhnamolaaDoor
namespace Go.Proofs.YtnhgijlhnamolaaDoor
set_option maxRecDepth 20000
open Go.RowKit
namespace Vc
open Va
/-- Blocks behind a world, and draws. -/
theorem grow_of {w w' : World} (h : Below w.heap.size w w') (hd : w.drawn ≤ w'.drawn) : ∃ q os, w' = Go.Sort.grow (w.drewN q) os := by
  refine ⟨w'.drawn - w.drawn, w'.heap.extract w.heap.size w'.heap.size, ?_⟩
  obtain ⟨h1, h2, h3, h4, h5⟩ := h
  have hh : w'.heap = w.heap ++ w'.heap.extract w.heap.size w'.heap.size := by
    refine Array.ext_getElem? fun k => ?_
    by_cases hk : k < w.heap.size
    · rw [h5 k hk, Array.getElem?_append_left hk]
    · rw [Array.getElem?_append_right (by omega), Array.getElem?_extract]
      split
      · rw [show w.heap.size + (k - w.heap.size) = k by omega]
      · rw [Array.getElem?_eq_none (by omega)]
  cases w
  cases w'
  simp only [World.drewN, Go.Sort.grow] at *
  subst h1 h2 h3
  congr 1
  omega
theorem own_grow (k i : Int) (s : ByteArray) (b : Bool) (w : World) :
    Calls Tryd.prog 81 #[.agg #[.int .i64 k, .int .i64 i, .string s, .bool b]] w fun e w' => e = .returned (.agg #[.int .i64 k, .int .i64 (ownI k i), .string (ownS k s), .bool (ownB k b)]) ∧ (Below w.heap.size w w' ∧ w'.drawn = w.drawn) := by
  unfold ownI ownS ownB
  by_cases h1 : k = 1
  · subst h1
    go_enter Tryd.func81, Tryd.ntmps81
    go_wp2_with fail
    (try simp only [Exit.inBlock, Exit.then])
    refine bodyPost_ret (v := .agg #[.int .i64 1, .int .i64 i, .string ⟨#[]⟩, .bool false]) ?_ rfl ⟨rfl, ?_, rfl⟩
    · rw [res_cell1 rfl]; go_simp
    · repeat' (first | exact Below.refl _ _ | refine Below.setCell ?_ (by simp) _ | refine Below.alloc ?_ (by simp <;> omega) _)
  by_cases h2 : k = 2
  · subst h2
    go_enter Tryd.func81, Tryd.ntmps81
    go_wp2_with fail
    (try simp only [Exit.inBlock, Exit.then])
    refine bodyPost_ret (v := .agg #[.int .i64 2, .int .i64 0, .string s, .bool false]) ?_ rfl ⟨rfl, ?_, rfl⟩
    · rw [res_cell1 rfl]; go_simp
    · repeat' (first | exact Below.refl _ _ | refine Below.setCell ?_ (by simp) _ | refine Below.alloc ?_ (by simp <;> omega) _)
  by_cases h3 : k = 3
  · subst h3
    go_enter Tryd.func81, Tryd.ntmps81
    go_wp2_with fail
    (try simp only [Exit.inBlock, Exit.then])
    refine bodyPost_ret (v := .agg #[.int .i64 3, .int .i64 0, .string ⟨#[]⟩, .bool b]) ?_ rfl ⟨rfl, ?_, rfl⟩
    · rw [res_cell1 rfl]; go_simp
    · repeat' (first | exact Below.refl _ _ | refine Below.setCell ?_ (by simp) _ | refine Below.alloc ?_ (by simp <;> omega) _)
  rw [if_neg h1, if_neg h2, if_neg h3]
  have q1 : (k == 1) = false := by simpa using h1
  have q2 : (k == 2) = false := by simpa using h2
  have q3 : (k == 3) = false := by simpa using h3
  go_enter Tryd.func81, Tryd.ntmps81
  go_wp2_with fail
  (try simp only [Exit.inBlock, Exit.then])
  refine bodyPost_ret (v := .agg #[.int .i64 k, .int .i64 0, .string ⟨#[]⟩, .bool false]) ?_ rfl ⟨rfl, ?_, rfl⟩
  · rw [res_cell1 rfl]; go_simp
  · repeat' (first | exact Below.refl _ _ | refine Below.setCell ?_ (by simp) _ | refine Below.alloc ?_ (by simp <;> omega) _)
set_option maxHeartbeats 2000000 in
theorem order_grow (k i : Int) (s : ByteArray) (b : Bool) (k' i' : Int) (s' : ByteArray) (b' : Bool) (w : World) :
    Calls Tryd.prog 74 #[.agg #[.int .i64 k, .int .i64 i, .string s, .bool b], .agg #[.int .i64 k', .int .i64 i', .string s', .bool b']] w fun e w' => e = .returned (.int .i64 (ord ⟨k, i, s, b⟩ ⟨k', i', s', b'⟩)) ∧ Below w.heap.size w w' ∧ w.drawn ≤ w'.drawn := by
  have Co := Lib.hid own_grow
  go_enter Tryd.func74, Tryd.ntmps74
  go_wp2_with fail
  have hd0 : ((w.alloc (.cells #[.int .i64 k, .int .i64 i, .string s, .bool b] 48)).alloc (.cells #[.int .i64 k', .int .i64 i', .string s', .bool b'] 48)).drawn = w.drawn := rfl
  have hb0 : Below w.heap.size w ((w.alloc (.cells #[.int .i64 k, .int .i64 i, .string s, .bool b] 48)).alloc (.cells #[.int .i64 k', .int .i64 i', .string s', .bool b'] 48)) := ((Below.refl _ _).alloc (Nat.le_refl _) _).alloc (by simp) _
  have hz0 : ((w.alloc (.cells #[.int .i64 k, .int .i64 i, .string s, .bool b] 48)).alloc (.cells #[.int .i64 k', .int .i64 i', .string s', .bool b'] 48)).heap.size = w.heap.size + 1 + 1 := by simp
  have v0 : Vb ((w.alloc (.cells #[.int .i64 k, .int .i64 i, .string s, .bool b] 48)).alloc (.cells #[.int .i64 k', .int .i64 i', .string s', .bool b'] 48)) w.heap.size k i s b := (Wd.Bx.new w _ _).alloc _
  have v1 : Vb ((w.alloc (.cells #[.int .i64 k, .int .i64 i, .string s, .bool b] 48)).alloc (.cells #[.int .i64 k', .int .i64 i', .string s', .bool b'] 48)) (w.heap.size + 1) k' i' s' b' := by
    have := Wd.Bx.new (w.alloc (.cells #[.int .i64 k, .int .i64 i, .string s, .bool b] 48)) 48 #[.int .i64 k', .int .i64 i', .string s', .bool b']
    simpa [Vb] using this
  generalize (w.alloc (.cells #[.int .i64 k, .int .i64 i, .string s, .bool b] 48)).alloc (.cells #[.int .i64 k', .int .i64 i', .string s', .bool b'] 48) = w1 at *
  go_cut [] (fun wx => Vb wx w.heap.size k (ownI k i) (ownS k s) (ownB k b) ∧ Vb wx (w.heap.size + 1) k' (ownI k' i') (ownS k' s') (ownB k' b') ∧ Below w.heap.size w wx ∧ w.drawn ≤ wx.drawn)
  case first =>
    obtain ⟨⟨u0, u1, u2, u3⟩, -⟩ := four v0
    obtain ⟨⟨u4, u5, u6, u7⟩, -⟩ := four v1
    have tok1 : True := trivial
    have hl0 : w.heap.size < w1.heap.size := by omega
    have hl1 : w.heap.size + 1 < w1.heap.size := by omega
    go_region_with (first | (go_at_call 81; (with_reducible refine (Co.out _ _ _ _ _).mono ?_); have _t := tok1; clear tok1; rintro e w2 ⟨rfl, hB2, hD2⟩; have hd2 := Lib.hid (show w1.drawn + 1 = w2.drawn from hD2.symm); clear hD2; have hb2 : Below w1.heap.size w1 w2 := Wd.of_drew hB2; have hz2 := hb2.size; obtain ⟨⟨_, _, _, _⟩, -⟩ := four (Wd.Bx.below v1 hl1 hb2)) | (go_at_call 81; (with_reducible refine (Co.out _ _ _ _ _).mono ?_); rintro e w3 ⟨rfl, hB3, hD3⟩; have hd3 := Lib.hid (Nat.le_trans (Nat.le_succ w1.drawn) (Nat.le_of_eq (hd2.out.trans hD3.symm))); clear hD3; have hb3 : Below w1.heap.size w1 w3 := hb2.trans (hB3.mono hz2); have x0 := Wd.Bx.below v0 hl0 hb3; have x1 := Wd.Bx.below v1 hl1 hb3; obtain ⟨⟨_, _, _, _⟩, _, _, _, _⟩ := four x0; obtain ⟨⟨_, _, _, _⟩, _, _, _, _⟩ := four x1))
    all_goals (go_wp2_with fail; go_meet; exact ⟨(Vb.set x0).other (by omega), (Vb.other x1 (by omega)).set, below_setV (below_setV (hb0.trans (hb3.mono (by omega))) (Nat.le_refl _)) (by omega), by (simp only [World.drawn_setCell]; exact Nat.le_trans (Nat.le_of_eq hd0.symm) hd3.out)⟩)
  case rest =>
    obtain ⟨y0, y1, hB, hD⟩ := hcut
    obtain ⟨⟨c0, c1, c2, c3⟩, -⟩ := four y0
    obtain ⟨⟨c4, c5, c6, c7⟩, -⟩ := four y1
    go_wp2_with fail
    refine wp_region_still_tail 22 (by kernel_rfl) (by kernel_rfl) ?_
    simp only [List.take_succ_cons, List.take_zero, List.drop_succ_cons, List.drop_zero]
    repeat (first | still_call (cmpI_any _ _ _) | still_call (cmpS_any _ _ _) | still_call (digit_any _ _) | still_call (cmpD_any _ _ _) | still_step)
    try refine wpStill_nil ?_
    change wpList _ _ _ _ _ wc.drew
    clear c0 c1 c2 c3 c4 c5 c6 c7 y0 y1
    obtain ⟨r1, hr1⟩ : ∃ r, r = cmpI k k' := ⟨_, rfl⟩
    obtain ⟨r2, hr2⟩ : ∃ r, r = cmpI (ownI k i) (ownI k' i') := ⟨_, rfl⟩
    obtain ⟨r3, hr3⟩ : ∃ r, r = cmpS (ownS k s) (ownS k' s') := ⟨_, rfl⟩
    obtain ⟨r4, hr4⟩ : ∃ r, r = cmpI (dg (ownB k b)) (dg (ownB k' b')) := ⟨_, rfl⟩
    have Hr := Lib.hid (ord_own k i s b k' i' s' b')
    rw [← hr1, ← hr2, ← hr3, ← hr4] at *
    clear hr1 hr2 hr3 hr4
    go_wp2_with fail
    refine (or_any _ 4 4 [r1, r2, r3, r4] _ ((Wd.Sl.lit wc .i64 [r1, r2, r3, r4] _ _ 4 rfl rfl (by decide)).below ((Below.refl _ _).drew)) (by decide)).mono ?_
    rintro e w5 ⟨rfl, rfl⟩
    rw [Hr.out]
    go_wp2_with fail
    go_ret
    exact ⟨rfl, (hB.alloc hB.size _).drew, Nat.le_succ_of_le hD⟩
end Vc
end Go.Proofs.YtnhgijlhnamolaaDoor
