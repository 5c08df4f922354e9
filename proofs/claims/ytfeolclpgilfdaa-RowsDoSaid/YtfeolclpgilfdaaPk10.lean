/- What Add of package dict does. Over any program: the lexical walk of a region that draws its order, ahead of its tail, one operation at a time: passed over where its guard says so, run where it is wanted. (The walk is wrapped, so that the elaborator does not run it.) Package rows: the closure of room, which looks at one column. -/
import Derived.Deep.RegionWith
import Derived.Deep.QuietTactic
import Derived.BigQuiet
import Derived.StillTailTactics
import Derived.KernelRfl
import Derived.Deep.RegionHeld3
import Derived.Test.YtfeolclpgilfdaaPk08
import Derived.Test.YtfeolclpgilfdaaPk06
import Derived.Test.YtfeolclpgilfdaaPk09
namespace Go.Proofs.Ytfeolclpgilfdaa
set_option maxRecDepth 20000
open Go.RowKit Go.Maps
namespace Dt
open Va (Vl May ord null)
open Vc (mayB mayB_iff may_any)
open Sc (tr tr_yes tr_no tr_iff)
open Dc Dx
/-- append of one value: its run, and where the row lies then. -/
theorem run_appV_at (w : World) (ty : TypeId) (B : Nat) (v : Value) (L : List Vl) (hown : w.ownsRow B 49 4 v L.length (Wd.flatV L)) (ad : Addr) (o : Vl) (hc : ∀ j u, (Wd.vals o)[j]? = some u → w.cell? (ad.add j) = some u) (hL : L.length ≤ 1000000) (hB : B ≤ w.heap.size) :
    ∃ A c w', (Builtin.append_ #[38, 38] ty #[v, .slice (some ad) 1 1]).run Try.prog w = .ok (.slice A (L.length + 1) c) w' ∧ w'.ownsRow B 49 4 (.slice A (L.length + 1) c) (L ++ [o]).length (Wd.flatV (L ++ [o])) ∧ w.grownBy w' v.ownBlock ∧ ((Value.slice A (L.length + 1) c).ownBlock = v.ownBlock ∨ (Value.slice A (L.length + 1) c).ownBlock = some w.heap.size) := by
  obtain ⟨i0, hi, hz0, hz1, hz2⟩ := info_parts Wd.info_vl
  obtain ⟨v', w', hrun, h2, h3, _, h5⟩ := run_append_own_at (P := Try.prog) w B 38 ty 49 i0 _ 4 40 Try.underlying38 hi hz0 hz1 hz2 rfl (by decide) v L.length _ hown ad 1 1 (Wd.vals o) rfl hc (Wd.vals_one o) (by unfold maxLen; omega) (by omega) hB
  obtain ⟨A, c, rfl⟩ := own_shape h2
  exact ⟨A, c, w', hrun, by rw [List.length_append, Wd.flatV_app, Wd.flatV_one]; exact h2, h3, h5⟩
/-- An append whose run is known, as a step of a region. -/
theorem step_run {w w' : World} {ops : Array Oper} {o : Oper} {a : Act} {K : Act → World → Prop} {Q : Exit → Act → World → Prop} {E : Prop} (hgd : o.guard = none) {s x : Operand} {v : Value}
    (ho : o.op = .call { callee := .builtin .append, args := #[s, x], argTypes := #[38, 38] })
    (hrun : (Builtin.append_ #[38, 38] o.type #[a.eval s, a.eval x]).run Try.prog w = .ok v w') (h : K (a.put o.dst v) w') : if Region.wanted o (yielded ops a.tmps) = true then Oper.wp Try.prog o a w K Q else E := by
  rw [if_pos (by simp [Region.wanted, hgd])]
  unfold Oper.wp
  simp [execOp, ho, resolve, invoke, builtin, hrun, Result.andThen]
  exact h
section
variable {w : World} {d m : Nat} {v : Value} {L : List Vl} {k : Int} {G : Nat → Prop}
set_option maxHeartbeats 4000000 in
theorem add_any (x : Vl) (h : Lay w d m v L k G) (hd : Dis L k) (ho : ∀ y ∈ L, Okv y) (hx : Okv x) :
    Calls Try.prog 52 #[pt d, .agg #[.int .i64 x.kind, .int .i64 x.i, .string x.s, .bool x.b]] w fun e w' => e = .returned (.tuple #[.int .i64 (add L k x).2.1, .int .i64 (add L k x).2.2]) ∧ Wd.Mv G w w' ∧ ∃ G', D w' d (add L k x).1 k G' ∧ ∀ g, G' g → Wd.Gr G w w' g := by
  have hb0 := (Below.refl w.heap.size w).alloc (Nat.le_refl _) (.cells #[.int .i64 x.kind, .int .i64 x.i, .string x.s, .bool x.b] 49)
  have x0 : Vc.Vb (w.alloc (.cells #[.int .i64 x.kind, .int .i64 x.i, .string x.s, .bool x.b] 49)) w.heap.size x.kind x.i x.s x.b := Wd.Bx.new w _ _
  have Hh := Lib.hid h
  have Cm := Lib.hid (may_any x.kind x.i x.s x.b (w.alloc (.cells #[.int .i64 x.kind, .int .i64 x.i, .string x.s, .bool x.b] 49)))
  have Cf := Lib.hid fun w' (h' : Lay w' d m v L k G) => find_any x h' hd ho hx
  have Hd := Lib.hid hd
  have Ho := Lib.hid ho
  have Hx := Lib.hid hx
  have Hx0 := Lib.hid x0
  obtain ⟨r, hr⟩ : ∃ r, r = add L k x := ⟨_, rfl⟩
  rw [← hr]
  have Hr := Lib.hid hr
  have same : ∀ w' : World, Below w.heap.size w w' → r.1 = L → Wd.Mv G w w' ∧ ∃ G', D w' d r.1 k G' ∧ ∀ g, G' g → Wd.Gr G w w' g := fun w' hb e => by
    rw [e]
    exact ⟨Wd.Mv.of_below hb, G, ⟨m, v, Hh.out.below hb⟩, fun g hg => .inl hg⟩
  have Same := Lib.hid same
  clear h hd ho hx x0 hr same
  by_cases hM : May x
  case neg =>
    have em : mayB x.kind x.i x.s x.b = false := by
      cases q : mayB x.kind x.i x.s x.b
      · rfl
      · exact absurd ((mayB_iff _ _ _ _).1 q) hM
    rw [em] at Cm
    have er := Lib.hid (Hr.out.trans (add_bad hM))
    clear em hM
    go_enter Try.func52, Try.ntmps52
    obtain ⟨⟨y0, y1, y2, y3⟩, -⟩ := Vc.four Hx0.out
    go_wp2_with fail
    refine Cm.out.mono ?_
    rintro e w1 ⟨rfl, hB1⟩
    have hb1 := hb0.trans (hB1.mono hb0.size)
    go_wp2_with fail
    go_ret2
    exact ⟨by rw [er.out]; rfl, Same.out _ hb1 (by rw [er.out])⟩
  have em : mayB x.kind x.i x.s x.b = true := (mayB_iff _ _ _ _).2 hM
  rw [em] at Cm
  have HM := Lib.hid hM
  clear em hM
  by_cases hin : x ∈ L
  · have er := Lib.hid (Hr.out.trans (add_old HM.out hin))
    rw [if_pos hin, decide_eq_true hin] at Cf
    clear hin
    go_enter Try.func52, Try.ntmps52
    obtain ⟨⟨y0, y1, y2, y3⟩, -⟩ := Vc.four Hx0.out
    go_wp2_with fail
    generalize w.alloc (.cells #[.int .i64 x.kind, .int .i64 x.i, .string x.s, .bool x.b] 49) = wa at *
    refine Cm.out.mono ?_
    rintro e w1 ⟨rfl, hB1⟩
    have hb1 := hb0.trans (hB1.mono hb0.size)
    have Hx1 := Lib.hid (Hx0.out.below (Wd.Bx.lt Hx0.out) hB1)
    clear y0 y1 y2 y3 Cm Hx0 hB1 hb0
    obtain ⟨⟨y0, y1, y2, y3⟩, -⟩ := Vc.four Hx1.out
    go_wp2_with fail
    refine (Cf.out _ (Hh.out.below hb1)).mono ?_
    rintro e w2 ⟨rfl, hB2⟩
    have hb2 := hb1.trans (hB2.mono hb1.size)
    go_wp2_with fail
    go_ret2
    exact ⟨by rw [er.out]; rfl, Same.out _ hb2 (by rw [er.out])⟩
  rw [if_neg hin, decide_eq_false hin] at Cf
  have Hin := Lib.hid hin
  clear hin
  obtain ⟨A, c, hv⟩ := own_shape Hh.out.row
  have Hv := Lib.hid hv
  have cells := fun w' (hb : Below w.heap.size w w') => by
    have hl := Hh.out.below hb
    have c0 := hl.box.cell 0
    have c1 := hl.box.cell 1
    have c2 := hl.box.cell 2
    have f2 := hl.box.free 2
    simp at c0 c1 c2
    rw [Hv.out] at c2
    exact (⟨c0, c1, c2, f2⟩ : _ ∧ _ ∧ _ ∧ _)
  have Cells := Lib.hid cells
  have hlb := lim_bd k
  have hdl := Hd.out.len
  clear hv cells
  by_cases hl : lim k ≤ L.length
  · have er := Lib.hid (Hr.out.trans (add_full HM.out Hin.out hl))
    have hle : (L.length : Int) = lim k := by omega
    have Hle := Lib.hid hle
    clear hl hle hlb hdl
    rw [← Hle.out] at Cells
    go_enter Try.func52, Try.ntmps52
    obtain ⟨⟨y0, y1, y2, y3⟩, -⟩ := Vc.four Hx0.out
    go_wp2_with fail
    generalize w.alloc (.cells #[.int .i64 x.kind, .int .i64 x.i, .string x.s, .bool x.b] 49) = wa at *
    refine Cm.out.mono ?_
    rintro e w1 ⟨rfl, hB1⟩
    have hb1 := hb0.trans (hB1.mono hb0.size)
    have Hx1 := Lib.hid (Hx0.out.below (Wd.Bx.lt Hx0.out) hB1)
    clear y0 y1 y2 y3 Cm Hx0 hB1 hb0
    obtain ⟨⟨y0, y1, y2, y3⟩, -⟩ := Vc.four Hx1.out
    go_wp2_with fail
    refine (Cf.out _ (Hh.out.below hb1)).mono ?_
    rintro e w2 ⟨rfl, hB2⟩
    have hb2 := hb1.trans (hB2.mono hb1.size)
    clear y0 y1 y2 y3
    obtain ⟨c0, c1, c2, f2⟩ := Cells.out _ hb2
    go_wp2_with fail
    go_quiet (fail)
    go_wp2_with fail
    go_ret2
    exact ⟨by rw [er.out]; rfl, Same.out _ (Wd.below_drewN hb2 _) (by rw [er.out])⟩
  · have er := Lib.hid (Hr.out.trans (add_new HM.out Hin.out (by omega)))
    have hle : ((L.length : Int) == lim k) = false := by
      have : ¬ (L.length : Int) = lim k := by omega
      simpa using this
    have hL4 : L.length ≤ 4096 := by omega
    clear hl hlb hdl
    go_enter Try.func52, Try.ntmps52
    obtain ⟨⟨y0, y1, y2, y3⟩, -⟩ := Vc.four Hx0.out
    go_wp2_with fail
    generalize w.alloc (.cells #[.int .i64 x.kind, .int .i64 x.i, .string x.s, .bool x.b] 49) = wa at *
    refine Cm.out.mono ?_
    rintro e w1 ⟨rfl, hB1⟩
    have hb1 := hb0.trans (hB1.mono hb0.size)
    have Hx1 := Lib.hid (Hx0.out.below (Wd.Bx.lt Hx0.out) hB1)
    clear y0 y1 y2 y3 Cm Hx0 hB1 hb0
    obtain ⟨⟨y0, y1, y2, y3⟩, -⟩ := Vc.four Hx1.out
    go_wp2_with fail
    refine (Cf.out _ (Hh.out.below hb1)).mono ?_
    rintro e w2 ⟨rfl, hB2⟩
    have hb2 := hb1.trans (hB2.mono hb1.size)
    have Hx2 := Lib.hid (Hx1.out.below (Wd.Bx.lt Hx1.out) hB2)
    clear y0 y1 y2 y3 Hx1 hB2
    obtain ⟨c0, c1, c2, f2⟩ := Cells.out _ hb2
    go_wp2_with fail
    go_quiet (fail)
    go_wp2_with fail
    have hb3 : Below w.heap.size w (w2.drewN nq) := Wd.below_drewN hb2 _
    have hx3 : Below w2.heap.size w2 (w2.drewN nq) := Wd.below_drewN (Below.refl _ _) _
    have Hx3 := Lib.hid (Hx2.out.below (Wd.Bx.lt Hx2.out) hx3)
    clear c0 c1 c2 f2 Hx2 hb2 hx3
    generalize w2.drewN nq = w3 at *
    have hL3 := Hh.out.below hb3
    obtain ⟨w4, hrun, hown4, hg4⟩ := hL3.own.drew.update Dm.law Try.underlying83 (by unfold maxLen; omega) (Dm.key_of Hx.out.1 Hx.out.2) (plainElem_int (H := Unit) Try.underlying3 (a := (L.length : Int)) (by simp [Lit.wf, IntKind.min, IntKind.max, IntKind.signed, IntKind.bits]; omega))
    obtain ⟨c0, c1, c2, f2⟩ := Cells.out _ hb3
    obtain ⟨⟨y0, y1, y2, y3⟩, -⟩ := Vc.four Hx3.out
    have HL3 := Lib.hid hL3
    have Hown4 := Lib.hid hown4
    have Hg4 := Lib.hid (show w3.grownBy w4 (some m) by obtain ⟨a1, a2, a3, a4, a5⟩ := hg4; exact ⟨a1, a2, a3, a4, a5⟩)
    clear hL3 hown4 hg4
    go_region
    all_goals (
      clear c0 c1 c2 f2 y0 y1 y2 y3 hrun
      have dlt := HL3.out.box.lt
      have hmd := HL3.out.md
      have b4 : Wd.Bx w4 d 85 #[.int .i64 (lim k), .map (some m), v] := HL3.out.box.at_ (Hg4.out.block d dlt (by simpa using hmd.symm))
      have r4 := Wd.own_keep HL3.out.row fun y hy => Hg4.out.block y (Wd.own_lt HL3.out.row hy).1 (fun e => HL3.out.mv (by rw [hy]; exact e))
      have hgo : ∀ o : Obj, w3.grownBy (w4.alloc o).drew (some m) := fun o => by
        obtain ⟨a1, a2, a3, a4, a5⟩ := Hg4.out
        obtain ⟨b1, b2, b3, b4, b5⟩ := World.grownBy_alloc w4 o none
        exact ⟨b1.trans a1, b2.trans a2, b3.trans a3, Nat.le_trans a4 b4, fun g hg hn => (b5 g (Nat.lt_of_lt_of_le hg a4) (by simp)).trans (a5 g hg hn)⟩
      have hxm : w.heap.size ≠ m := by have := Hh.out.own.lt; omega
      have x4 : Vc.Vb w4 w.heap.size x.kind x.i x.s x.b := Wd.Bx.at_ Hx3.out (Hg4.out.block _ (Wd.Bx.lt Hx3.out) (by simpa using hxm))
      obtain ⟨⟨y0, y1, y2, y3⟩, -⟩ := Vc.four x4
      have c2 := b4.cell 2
      simp at c2
      rw [Hv.out] at c2
      have hcv := Wd.vals_new w4 x _ rfl
      have hz5 : ((w4.alloc (.cells #[.int .i64 x.kind, .int .i64 x.i, .string x.s, .bool x.b] 49)).drew).heap.size = w4.heap.size + 1 := by simp
      have r5 := (show ((w4.alloc (.cells #[.int .i64 x.kind, .int .i64 x.i, .string x.s, .bool x.b] 49)).drew).ownsRow 0 49 4 v L.length (Wd.flatV L) from r4.alloc (.cells #[.int .i64 x.kind, .int .i64 x.i, .string x.s, .bool x.b] 49))
      obtain ⟨A6, c6, w6, hrun6, r6, g6, l6⟩ := run_appV_at _ 38 0 v L r5 _ x hcv (by omega) (Nat.zero_le _)
      have b6 : Wd.Bx w6 d 85 #[.int .i64 (lim k), .map (some m), v] := (show Wd.Bx ((w4.alloc (.cells #[.int .i64 x.kind, .int .i64 x.i, .string x.s, .bool x.b] 49)).drew) d 85 #[.int .i64 (lim k), .map (some m), v] from b4.alloc _).at_ (g6.block d (by rw [hz5]; have := b4.lt; omega) (fun e => HL3.out.dv e.symm))
      have c6' := b6.cell 2
      have f6 := b6.free 2
      simp at c6'
      rw [Hv.out] at c6'
      obtain ⟨hT, hM⟩ := HL3.out.more x (Hown4.out.alloc _).drew (hgo _) r6 g6 l6
      have HT := Lib.hid hT
      have HMv := Lib.hid hM
      have c4 := (World.cell?_alloc_lt w4 (.cells #[.int .i64 x.kind, .int .i64 x.i, .string x.s, .bool x.b] 49) ⟨d, 2, none⟩ b4.lt).trans c2
      have hvx : some w.heap.size ≠ v.ownBlock := fun e => by have := (Wd.own_lt Hh.out.row e.symm).1; omega
      have hdx : w.heap.size ≠ d := by have := Hh.out.box.lt; omega
      have x5 := Wd.Bx.alloc x4 (.cells #[.int .i64 x.kind, .int .i64 x.i, .string x.s, .bool x.b] 49)
      have x6 : Vc.Vb w6 w.heap.size x.kind x.i x.s x.b := Wd.Bx.at_ (w := (w4.alloc (.cells #[.int .i64 x.kind, .int .i64 x.i, .string x.s, .bool x.b] 49)).drew) x5 (g6.block _ (Wd.Bx.lt x5) hvx)
      have hH5 := (Vc.four x5).1
      have hH6 := (Vc.four x6).1
      have hH7 := (Vc.four (Wd.Bx.other x6 (a := ⟨d, 2, none⟩) hdx (.slice A6 (L.length + 1) c6))).1
      rw [Hv.out] at hrun6
      have hrun6' := Lib.hid hrun6
      clear hrun6 hvx hdx x5 x6
      clear hgo hxm hcv r4 r5 r6 g6 l6 b4 b6 hT hM dlt hmd hz5 x4
      go_wp2_with fail
      have hH : w4.drew.cell? ⟨w.heap.size, 0, none⟩ = some (.int .i64 x.kind) ∧ w4.drew.cell? ⟨w.heap.size, 1, none⟩ = some (.int .i64 x.i) ∧ w4.drew.cell? ⟨w.heap.size, 2, none⟩ = some (.string x.s) ∧ w4.drew.cell? ⟨w.heap.size, 3, none⟩ = some (.bool x.b) := ⟨y0, y1, y2, y3⟩
      refine wp_region_any (by kernel_rfl) ?_
      refine wpAny_of_held (S := fun w' => w'.cell? ⟨w.heap.size, 0, none⟩ = some (.int .i64 x.kind) ∧ w'.cell? ⟨w.heap.size, 1, none⟩ = some (.int .i64 x.i) ∧ w'.cell? ⟨w.heap.size, 2, none⟩ = some (.string x.s) ∧ w'.cell? ⟨w.heap.size, 3, none⟩ = some (.bool x.b)) _ _ _ _ ?_
      change wpAnyH _ _ _ _ _ 11 (Array.replicate 11 false) _ w4.drew
      refine Rt.take (i := 0) (d := 45) (v := (.pointer (some ⟨d, 0, none⟩))) rfl rfl (by kernel_rfl) (by kernel_rfl) (by kernel_rfl) (fun _ _ _ h => h) (Or.inl ⟨by rfl, ?_⟩) hH ?_
      · rintro w' ⟨s0, s1, s2, s3⟩
        go_simp
      (try simp only [List.setIfInBounds_toArray, List.set_cons_zero, List.set_cons_succ])
      refine Rt.take (i := 1) (d := 46) (v := (.pointer (some ⟨d, 0, none⟩))) rfl rfl (by kernel_rfl) (by kernel_rfl) (by kernel_rfl) (fun _ _ _ h => h) (Or.inl ⟨by rfl, ?_⟩) hH ?_
      · rintro w' ⟨s0, s1, s2, s3⟩
        go_simp
      (try simp only [List.setIfInBounds_toArray, List.set_cons_zero, List.set_cons_succ])
      refine Rt.take (i := 2) (d := 47) (v := (.pointer (some ⟨d, 0, none⟩))) rfl rfl (by kernel_rfl) (by kernel_rfl) (by kernel_rfl) (fun _ _ _ h => h) (Or.inl ⟨by rfl, ?_⟩) hH ?_
      · rintro w' ⟨s0, s1, s2, s3⟩
        go_simp
      (try simp only [List.setIfInBounds_toArray, List.set_cons_zero, List.set_cons_succ])
      refine Rt.take (i := 3) (d := 48) (v := (.pointer (some ⟨d, 2, none⟩))) rfl rfl (by kernel_rfl) (by kernel_rfl) (by kernel_rfl) (fun _ _ _ h => h) (Or.inl ⟨by rfl, ?_⟩) hH ?_
      · rintro w' ⟨s0, s1, s2, s3⟩
        go_simp
      (try simp only [List.setIfInBounds_toArray, List.set_cons_zero, List.set_cons_succ])
      refine Rt.take (i := 5) (d := 50) (v := (.agg #[.int .i64 x.kind, .int .i64 x.i, .string x.s, .bool x.b])) rfl rfl (by kernel_rfl) (by kernel_rfl) (by kernel_rfl) (fun _ _ _ h => h) (Or.inl ⟨by rfl, ?_⟩) hH ?_
      · rintro w' ⟨s0, s1, s2, s3⟩
        go_simp
      (try simp only [List.setIfInBounds_toArray, List.set_cons_zero, List.set_cons_succ])
      refine wpAnyH_ready (rs := [4, 6]) (by kernel_rfl) (by simp) ?_
      refine AllReadyH.cons rfl (fun K hK => ?_) (AllReadyH.cons rfl (fun K hK => ?_) AllReadyH.nil)
      · go_simp
        refine hK.out _ _ hH (fun _ => ?_)
        clear hK K
        (try simp only [Act.put, List.setIfInBounds_toArray, List.set_cons_zero, List.set_cons_succ])
        refine wpAnyH_ready (rs := [6]) (by kernel_rfl) (by simp) ?_
        refine AllReadyH.cons rfl (fun K hK => ?_) AllReadyH.nil
        go_simp
        refine hK.out _ _ hH5 (fun _ => ?_)
        clear hK K
        (try simp only [Act.put, List.setIfInBounds_toArray, List.set_cons_zero, List.set_cons_succ])
        refine wpAnyH_ready (rs := [7]) (by kernel_rfl) (by simp) ?_
        refine AllReadyH.cons rfl (fun K hK => ?_) AllReadyH.nil
        refine step_run rfl (s := .tmp 49) (x := .tmp 51) rfl hrun6'.out ?_
        refine hK.out _ _ hH6 (fun _ => ?_)
        clear hK K
        (try simp only [Act.put, List.setIfInBounds_toArray])
        refine Rt.take (i := 8) (d := 53) (v := (.pointer (some ⟨d, 0, none⟩))) rfl rfl (by kernel_rfl) (by kernel_rfl) (by kernel_rfl) (fun _ _ _ h => h) (Or.inl ⟨by rfl, ?_⟩) hH6 ?_
        · rintro w' ⟨s0, s1, s2, s3⟩
          go_simp
        (try simp only [List.setIfInBounds_toArray, List.set_cons_zero, List.set_cons_succ])
        refine Rt.take (i := 9) (d := 54) (v := (.pointer (some ⟨d, 2, none⟩))) rfl rfl (by kernel_rfl) (by kernel_rfl) (by kernel_rfl) (fun _ _ _ h => h) (Or.inl ⟨by rfl, ?_⟩) hH6 ?_
        · rintro w' ⟨s0, s1, s2, s3⟩
          go_simp
        refine wpAnyH_ready (rs := [10]) (by kernel_rfl) (by simp) ?_
        refine AllReadyH.cons rfl (fun K hK => ?_) AllReadyH.nil
        go_simp
        refine hK.out _ _ hH7 (fun _ => ?_)
        clear hK K
        (try simp only [Act.put, List.setIfInBounds_toArray, List.set_cons_zero, List.set_cons_succ])
        refine wpAnyH_done (by kernel_rfl) ?_ _
        (try simp only [Exit.then])
        go_wp2_with fail
        go_ret2
        refine ⟨by rw [er.out]; rfl, (Wd.Mv.of_below hb3).then HMv.out, _, ⟨m, _, by rw [er.out]; exact HT.out⟩, ?_⟩
        rintro g (q | ⟨q1, q2⟩)
        · exact .inl q
        · exact .inr ⟨Nat.le_trans hb3.size q1, q2⟩
      · go_simp
        refine hK.out _ _ hH5 (fun _ => ?_)
        clear hK K
        (try simp only [Act.put, List.setIfInBounds_toArray, List.set_cons_zero, List.set_cons_succ])
        refine wpAnyH_ready (rs := [4]) (by kernel_rfl) (by simp) ?_
        refine AllReadyH.cons rfl (fun K hK => ?_) AllReadyH.nil
        go_simp
        refine hK.out _ _ hH5 (fun _ => ?_)
        clear hK K
        (try simp only [Act.put, List.setIfInBounds_toArray, List.set_cons_zero, List.set_cons_succ])
        refine wpAnyH_ready (rs := [7]) (by kernel_rfl) (by simp) ?_
        refine AllReadyH.cons rfl (fun K hK => ?_) AllReadyH.nil
        refine step_run rfl (s := .tmp 49) (x := .tmp 51) rfl hrun6'.out ?_
        refine hK.out _ _ hH6 (fun _ => ?_)
        clear hK K
        (try simp only [Act.put, List.setIfInBounds_toArray])
        refine Rt.take (i := 8) (d := 53) (v := (.pointer (some ⟨d, 0, none⟩))) rfl rfl (by kernel_rfl) (by kernel_rfl) (by kernel_rfl) (fun _ _ _ h => h) (Or.inl ⟨by rfl, ?_⟩) hH6 ?_
        · rintro w' ⟨s0, s1, s2, s3⟩
          go_simp
        (try simp only [List.setIfInBounds_toArray, List.set_cons_zero, List.set_cons_succ])
        refine Rt.take (i := 9) (d := 54) (v := (.pointer (some ⟨d, 2, none⟩))) rfl rfl (by kernel_rfl) (by kernel_rfl) (by kernel_rfl) (fun _ _ _ h => h) (Or.inl ⟨by rfl, ?_⟩) hH6 ?_
        · rintro w' ⟨s0, s1, s2, s3⟩
          go_simp
        refine wpAnyH_ready (rs := [10]) (by kernel_rfl) (by simp) ?_
        refine AllReadyH.cons rfl (fun K hK => ?_) AllReadyH.nil
        go_simp
        refine hK.out _ _ hH7 (fun _ => ?_)
        clear hK K
        (try simp only [Act.put, List.setIfInBounds_toArray, List.set_cons_zero, List.set_cons_succ])
        refine wpAnyH_done (by kernel_rfl) ?_ _
        (try simp only [Exit.then])
        go_wp2_with fail
        go_ret2
        refine ⟨by rw [er.out]; rfl, (Wd.Mv.of_below hb3).then HMv.out, _, ⟨m, _, by rw [er.out]; exact HT.out⟩, ?_⟩
        rintro g (q | ⟨q1, q2⟩)
        · exact .inl q
        · exact .inr ⟨Nat.le_trans hb3.size q1, q2⟩)
end
end Dt
end Go.Proofs.Ytfeolclpgilfdaa
namespace Go.Proofs.Ytfeolclpgilfdaa
set_option maxRecDepth 20000
namespace Sk
structure St (P : Program) (ops : Array Oper) (w : World) (Q : Act → Prop) (l : List Oper) (a : Act) : Prop where
  out : wpStill P ops w Q l a
section
variable {P : Program} {ops : Array Oper} {w : World} {Q : Act → Prop} {a : Act} {o : Oper} {rest : List Oper}
theorem want (hw : Region.wanted o (yielded ops a.tmps) = true) (h : ∀ K : Act → Prop, (∀ a, St P ops w Q rest a → K a) → o.still P a w K) : St P ops w Q (o :: rest) a :=
  ⟨wpStill_step fun K hK => by rw [if_pos hw]; exact h K fun a q => hK a q.out⟩
theorem skip (hw : Region.wanted o (yielded ops a.tmps) = false) (h : St P ops w Q rest (a.put o.dst undef)) : St P ops w Q (o :: rest) a :=
  ⟨wpStill_step fun K hK => by rw [if_neg (by rw [hw]; exact Bool.false_ne_true)]; exact hK _ h.out⟩
theorem nil (h : Q a) : St P ops w Q [] a := ⟨wpStill_nil h⟩
end
section
variable {P : Program} {ops : Array Oper} {w : World} {Q : Exit → Act → World → Prop} {a : Act} {o : Oper} {rest : List Oper}
/-- The same in a plain list of operations. -/
theorem lwant (hw : Region.wanted o (yielded ops a.tmps) = true) (h : ∀ K : Act → World → Prop, (∀ a w, wpList P ops Q rest a w → K a w) → o.wp P a w K Q) : wpList P ops Q (o :: rest) a w :=
  wpList_step fun K hK => by rw [if_pos hw]; exact h K hK
theorem lskip (hw : Region.wanted o (yielded ops a.tmps) = false) (h : wpList P ops Q rest (a.put o.dst undef) w) : wpList P ops Q (o :: rest) a w :=
  wpList_step fun K hK => by rw [if_neg (by rw [hw]; exact Bool.false_ne_true)]; exact hK _ _ h
end
end Sk
end Go.Proofs.Ytfeolclpgilfdaa
namespace Go.Proofs.Ytfeolclpgilfdaa
set_option maxRecDepth 20000
open Go.RowKit
namespace Rw
open Va (Vl May null)
theorem goes_room : Goes 62 := fun _ _ => by kernel_rfl
theorem goes_append : Goes 33 := fun _ _ => by kernel_rfl
theorem goes_at : Goes 40 := fun _ _ => by kernel_rfl
theorem goes_new : Goes 29 := fun _ _ => by kernel_rfl
theorem and6 {w w' : World} {a b : Nat} {o f0 f1 f2 f3 B : Nat} {p : Nat} {x0 x1 y0 y1 y2 y3 : Value} (h : w.cell? ⟨a, o, none⟩ = some x0 ∧ w.cell? ⟨p, 0, none⟩ = some x1 ∧ w.cell? ⟨b, f0, none⟩ = some y0 ∧ w.cell? ⟨b, f1, none⟩ = some y1 ∧ w.cell? ⟨b, f2, none⟩ = some y2 ∧ w.cell? ⟨b, f3, none⟩ = some y3)
    (hb : Below B w w') (ha : a < B) (hp : p < B) (hB : b < B) : w'.cell? ⟨a, o, none⟩ = some x0 ∧ w'.cell? ⟨p, 0, none⟩ = some x1 ∧ w'.cell? ⟨b, f0, none⟩ = some y0 ∧ w'.cell? ⟨b, f1, none⟩ = some y1 ∧ w'.cell? ⟨b, f2, none⟩ = some y2 ∧ w'.cell? ⟨b, f3, none⟩ = some y3 :=
  ⟨(hb.cell (p := ⟨a, o, none⟩) ha).trans h.1, (hb.cell (p := ⟨p, 0, none⟩) hp).trans h.2.1, (hb.cell (p := ⟨b, f0, none⟩) hB).trans h.2.2.1, (hb.cell (p := ⟨b, f1, none⟩) hB).trans h.2.2.2.1, (hb.cell (p := ⟨b, f2, none⟩) hB).trans h.2.2.2.2.1, (hb.cell (p := ⟨b, f3, none⟩) hB).trans h.2.2.2.2.2⟩
set_option maxHeartbeats 4000000 in
theorem room1_any (k g p t q r : Nat) (b o m c : Nat) (x : Vl) (bv : Bool) (d dm : Nat) (dv : Value) (L : List Vl) (vals : Int) (G : Nat → Prop) (w : World)
    (hD : Dt.Lay w d dm dv L vals G) (hd : Dc.Dis L vals) (ho : ∀ y ∈ L, Dx.Okv y) (hx : Dx.Okv x) (hk : k < m)
    (h0 : w.cell? ⟨g, k * 2, none⟩ = some (Dt.pt d)) (h1 : w.cell? ⟨p, 0, none⟩ = some (.slice (some ⟨b, o, none⟩) m c))
    (h2 : w.cell? ⟨b, o + k * 4, none⟩ = some (.int .i64 x.kind)) (h3 : w.cell? ⟨b, o + k * 4 + 1, none⟩ = some (.int .i64 x.i)) (h4 : w.cell? ⟨b, o + k * 4 + 2, none⟩ = some (.string x.s)) (h5 : w.cell? ⟨b, o + k * 4 + 3, none⟩ = some (.bool x.b))
    (h6 : Wd.Var w t 4 (.bool bv)) (h7 : w.cell? ⟨q, 0, none⟩ = some (Dt.pt r)) (h8 : w.cell? ⟨r, 6, none⟩ = some (.int .i64 vals)) (hB : g < w.heap.size ∧ p < w.heap.size ∧ b < w.heap.size ∧ q < w.heap.size ∧ r < w.heap.size) :
    Calls Try.prog 62 #[.int .i64 k, .pointer (some ⟨g, k * 2, none⟩), .pointer (some ⟨p, 0, none⟩), .pointer (some ⟨t, 0, none⟩), .pointer (some ⟨q, 0, none⟩)] w fun e w' => e = .returned (.tuple #[]) ∧ Wd.Var w' t 4 (.bool (bv && decide (x ∈ L ∨ (L.length : Int) < vals))) ∧ Wd.Mv (· = t) w w' := by
  obtain ⟨hBg, hBp, hBb, hBq, hBr⟩ := hB
  have hb := (Below.refl w.heap.size w).drew
  have z10 : w.drew.cell? ⟨g, k * 2, none⟩ = some (Dt.pt d) ∧ w.drew.cell? ⟨p, 0, none⟩ = some (.slice (some ⟨b, o, none⟩) m c) ∧ w.drew.cell? ⟨b, o + k * 4, none⟩ = some (.int .i64 x.kind) ∧ w.drew.cell? ⟨b, o + k * 4 + 1, none⟩ = some (.int .i64 x.i) ∧ w.drew.cell? ⟨b, o + k * 4 + 2, none⟩ = some (.string x.s) ∧ w.drew.cell? ⟨b, o + k * 4 + 3, none⟩ = some (.bool x.b) := ⟨h0, h1, h2, h3, h4, h5⟩
  have Cf := Lib.hid fun w' (hb' : Below w.heap.size w w') => Dt.find_any x (hD.below hb') hd ho hx
  have H6 := Lib.hid h6
  have Hc := Lib.hid (And.intro h0 (And.intro h7 h8))
  have HD := Lib.hid hD
  obtain ⟨N, hN⟩ : ∃ N, N = if x ∈ L then Dc.fnd L x else 0 := ⟨_, rfl⟩
  obtain ⟨T, hT⟩ : ∃ T, T = decide (x ∈ L) := ⟨_, rfl⟩
  obtain ⟨U, hU⟩ : ∃ U, U = decide ((L.length : Int) < vals) := ⟨_, rfl⟩
  have hTU : decide (x ∈ L ∨ (L.length : Int) < vals) = (T || U) := by rw [hT, hU, Bool.eq_iff_iff]; simp
  rw [hTU]
  rw [← hN, ← hT] at Cf
  have HU := Lib.hid hU
  have hkm : (k : Int) < (m : Int) := by omega
  clear hN hT hU hTU hd ho hx hD h0 h1 h2 h3 h4 h5 h6 h7 h8
  go_enter Try.func62, Try.ntmps62
  go_wp2_with fail
  go_region_held3 (fun w' => w'.cell? ⟨g, k * 2, none⟩ = some (Dt.pt d) ∧ w'.cell? ⟨p, 0, none⟩ = some (.slice (some ⟨b, o, none⟩) m c) ∧ w'.cell? ⟨b, o + k * 4, none⟩ = some (.int .i64 x.kind) ∧ w'.cell? ⟨b, o + k * 4 + 1, none⟩ = some (.int .i64 x.i) ∧ w'.cell? ⟨b, o + k * 4 + 2, none⟩ = some (.string x.s) ∧ w'.cell? ⟨b, o + k * 4 + 3, none⟩ = some (.bool x.b)) (with_reducible first | exact z10) (first
    | (go_at_call 63; (with_reducible refine (Cf.out _ hb).mono ?_); rintro e wz ⟨rfl, hBz⟩; have hb := hb.trans (hBz.mono hb.size); have z10 := and6 z10 hBz hBg hBp hBb))
  have v9 : Wd.Var wz t 4 (.bool bv) := (hb.block t H6.out.lt).trans H6.out
  have w0 := z10.1
  have w1 : wz.cell? ⟨q, 0, none⟩ = some (Dt.pt r) := (hb.cell (p := ⟨q, 0, none⟩) hBq).trans Hc.out.2.1
  have w2 : wz.cell? ⟨r, 6, none⟩ = some (.int .i64 vals) := (hb.cell (p := ⟨r, 6, none⟩) hBr).trans Hc.out.2.2
  have v0 := v9.cell
  have v1 := v9.free
  have V9 := Lib.hid v9
  have Mv9 := Lib.hid (Wd.Mv.of_below (G := (· = t)) hb)
  have Cl := Lib.hid fun q => Dt.len_any ((HD.out.below hb).below (Wd.below_drewN (Below.refl _ wz) q))
  clear z10 hBz Cf Hc HD hb v9
  cases bv with
  | false =>
    go_wp2_with fail
    refine wp_region_still_tail 16 (by kernel_rfl) (by kernel_rfl) ?_
    simp only [List.take_succ_cons, List.take_zero, List.drop_succ_cons, List.drop_zero]
    refine Sk.St.out ?_
    iterate 2 (refine Sk.want (by kernel_rfl) (fun K hK => ?_); go_simp; refine hK _ ?_; clear hK K)
    iterate 13 (refine Sk.skip (by kernel_rfl) ?_; (try simp only [Act.put, List.setIfInBounds_toArray, List.set_cons_zero, List.set_cons_succ]))
    iterate 1 (refine Sk.want (by kernel_rfl) (fun K hK => ?_); go_simp; refine hK _ ?_; clear hK K)
    refine Sk.nil ?_
    change wpList _ _ _ _ _ wz.drew
    go_wp2_with fail
    go_end0
    exact ⟨rfl, (V9.out.set (u := .bool false)).drew, (Mv9.out.set rfl _).drew⟩
  | true =>
  cases T with
  | true =>
    go_wp2_with fail
    refine wp_region_still_tail 16 (by kernel_rfl) (by kernel_rfl) ?_
    simp only [List.take_succ_cons, List.take_zero, List.drop_succ_cons, List.drop_zero]
    refine Sk.St.out ?_
    iterate 4 (refine Sk.want (by kernel_rfl) (fun K hK => ?_); go_simp; refine hK _ ?_; clear hK K)
    iterate 10 (refine Sk.skip (by kernel_rfl) ?_; (try simp only [Act.put, List.setIfInBounds_toArray, List.set_cons_zero, List.set_cons_succ]))
    iterate 2 (refine Sk.want (by kernel_rfl) (fun K hK => ?_); go_simp; refine hK _ ?_; clear hK K)
    refine Sk.nil ?_
    change wpList _ _ _ _ _ wz.drew
    go_wp2_with fail
    go_end0
    exact ⟨rfl, (V9.out.set (u := .bool true)).drew, (Mv9.out.set rfl _).drew⟩
  | false =>
    go_wp2_with fail
    refine wp_region_still_tail 16 (by kernel_rfl) (by kernel_rfl) ?_
    simp only [List.take_succ_cons, List.take_zero, List.drop_succ_cons, List.drop_zero]
    refine Sk.St.out ?_
    iterate 8 (refine Sk.want (by kernel_rfl) (fun K hK => ?_); go_simp; refine hK _ ?_; clear hK K)
    iterate 1 (refine Sk.want (by kernel_rfl) (fun K hK => ?_); go_simp; refine ⟨_, Cl.out _, hK _ ?_⟩; clear hK K)
    iterate 7 (refine Sk.want (by kernel_rfl) (fun K hK => ?_); go_simp; refine hK _ ?_; clear hK K)
    refine Sk.nil ?_
    change wpList _ _ _ _ _ wz.drew
    go_wp2_with fail
    go_end0
    exact ⟨rfl, by rw [HU.out]; exact (V9.out.set (u := .bool (decide ((L.length : Int) < vals)))).drew, (Mv9.out.set rfl _).drew⟩
end Rw
end Go.Proofs.Ytfeolclpgilfdaa
