/- What runs.putRuns does: it writes the runs that eachRun hands on. What runs.Encode does: the list of kinds, what each of them writes, the shortest block. -/
import Derived.Deep.RegionHeld3
import Derived.Deep.DeepCutAuto
import Derived.Laws.EntriesVeiled
import Derived.Test.YtaoeipehpakngaaGreatDoorPa25
import Derived.Test.YtaoeipehpakngaaGreatDoorPa26
namespace Go.Proofs.YtaoeipehpakngaaGreatDoor
open Go.RowKit Go.Shelf
attribute [local go_sem] Oper.semAt_some
namespace Rc
open Nc
def PutI (w : World) (A : Option Addr) (m c : Nat) (pre : List Run) (W : World) : Prop :=
  (∃ v, Boxed W w.heap.size 32 v ∧ W.ownsRow w.heap.size 5 1 v (Rn.runB (vals pre)).length ((Rn.runB (vals pre)).map (Value.int .u8)) ∧ True) ∧ Boxed W (w.heap.size + 1) 25 (.slice A m c) ∧ Below w.heap.size w W
def PutAx (w : World) (A : Option Addr) (m c : Nat) (x : Run) (a' : Act) (W : World) : Prop :=
  ∃ g, Wd.Bx W g 144 #[.int .i64 x.1.1, .int .i64 x.1.2] ∧ w.heap.size + 1 < g ∧
    a' = { tmps := #[.slice A m c, undef, .slice none 0 0, .pointer (some ⟨w.heap.size, 0, none⟩), .pointer (some ⟨g, 0, none⟩), .slice A m c, .func (.func 235) #[] #[.pointer (some ⟨w.heap.size + 1, 0, none⟩)], .agg #[.int .i64 x.1.1, .int .i64 x.1.2], undef, undef, undef, undef, undef, undef, undef, undef, undef], defers := [] }
theorem putAx_own (w : World) (A : Option Addr) (m c : Nat) (B : Nat) (x : Run) (a' : Act) : OwnFrom B (fun (_ : Unit) W => PutAx w A m c x a' W) := fun _ X Y row ⟨g, h1, h2, h3⟩ hg hrow =>
  ⟨g, bx_own (β := Unit) g _ _ () X Y row h1 hg (fun r e => (hrow r e).2), h2, h3⟩
theorem putI_own (w : World) (A : Option Addr) (m c : Nat) (B : Nat) (hB : w.heap.size ≤ B) : OwnFrom B (PutI w A m c) :=
  OwnFrom.and (Own.from (holdsRow_own w.heap.size w.heap.size _ _ 1 (fun pre : List Run => (Rn.runB (vals pre)).length) (fun pre => (Rn.runB (vals pre)).map (Value.int .u8)) (fun _ _ => True)) _) (OwnFrom.and (Own.from (bx_own _ _ _) _) (ownFrom_below (Nat.le_refl _) hB))
theorem step_app {P : Program} (w : World) {ops : Array Oper} {o : Oper} {a : Act} {K : Act → World → Prop} {Q : Exit → Act → World → Prop} {E : Prop} (hgd : o.guard = none) (s x : Operand) (t : TypeId)
    (ho : o.op = .call { callee := .builtin .append, args := #[s, x], argTypes := #[t, t] })
    (B : Nat) (e : TypeId) (i : TypeInfo) (z : Value) (k : IntKind) (bytes : Nat) (ht : P.underlying t = some (.slice e)) (hi : P.info? e = some i) (hz : i.zero = some z)
    (hsize : i.size = 1) (hby : i.bytes = bytes) (hzs : z.cells.size = 1)
    (v : Value) (xs : List Int) (hs : a.eval s = v) (hown : w.ownsRow B e 1 v xs.length (xs.map (Value.int k)))
    (B' : Nat) (A : Option Addr) (m c : Nat) (ys : List Int) (hx : a.eval x = .slice A m c) (hm : m = ys.length) (hA : A = none → c = 0) (hr : Wd.Rd w B' k A ys)
    (hbytes : (xs.length + ys.length) * bytes ≤ 140737488355328) (h63 : xs.length + ys.length ≤ maxLen) (hB : B ≤ w.heap.size)
    (h : ∀ v' w', w'.ownsRow B e 1 v' (xs ++ ys).length ((xs ++ ys).map (Value.int k)) → w.grownBy w' v.ownBlock → K (a.put o.dst v') w') : if Region.wanted o (yielded ops a.tmps) = true then Oper.wp P o a w K Q else E := by
  rw [if_pos (by simp [Region.wanted, hgd])]
  obtain ⟨v', w', hrun, h2, h3⟩ := Wd.run_app_own (P := P) w B t o.type e i z k bytes ht hi hz hsize hby hzs v xs hown B' A m c ys hm hA hr hbytes h63 hB
  unfold Oper.wp
  simp [execOp, ho, resolve, invoke, builtin, hs, hx, hrun, Result.andThen]
  exact h v' w' h2 h3
theorem put_end {w W w2 w3 : World} {A : Option Addr} {m c : Nat} {pre : List Run} {x : Run} {v v' : Value} {g : Nat} {cs : Array Value} {ds : List Int}
    (bV : Boxed W w.heap.size 32 v) (hrow : W.ownsRow w.heap.size 5 1 v (Rn.runB (vals pre)).length ((Rn.runB (vals pre)).map (Value.int .u8))) (bS : Boxed W (w.heap.size + 1) 25 (.slice A m c)) (hB : Below w.heap.size w W)
    (bX : Wd.Bx W g 144 cs) (hg : w.heap.size + 1 < g) (hW : Below W.heap.size W w2) (hds : ds = Nm.vd (Nm.zz x.1.1) ++ Nm.vd x.1.2)
    (hown : w3.ownsRow w.heap.size 5 1 v' (Rn.runB (vals pre) ++ ds).length ((Rn.runB (vals pre) ++ ds).map (Value.int .u8))) (hgr : w2.grownBy w3 v.ownBlock) :
    Boxed w3 w.heap.size 32 v ∧ Wd.Bx w3 g 144 cs ∧ Wd.Bx (w3.setCell ⟨w.heap.size, 0, none⟩ v') g 144 cs ∧
      KeepsFrom (w.heap.size + 1 + 1) W (w3.setCell ⟨w.heap.size, 0, none⟩ v') ∧ Keeps w.heap.size (w.heap.size + 1) W (w3.setCell ⟨w.heap.size, 0, none⟩ v') ∧ PutI w A m c (pre ++ [x]) (w3.setCell ⟨w.heap.size, 0, none⟩ v') := by
  have hsz := hB.size
  have hrow2 := Wd.own_below hrow hW
  have bV2 : Wd.Bx w2 w.heap.size _ _ := (show Wd.Bx W w.heap.size _ _ from bV).below bV.lt hW
  have bS2 : Wd.Bx w2 (w.heap.size + 1) _ _ := (show Wd.Bx W (w.heap.size + 1) _ _ from bS).below bS.lt hW
  have bX2 := bX.below bX.lt hW
  have bV3 : Boxed w3 w.heap.size 32 v := bV2.grown hgr (bV2.apart hrow2 (by decide))
  have bS3 : Boxed w3 (w.heap.size + 1) 25 (.slice A m c) := bS2.grown hgr (bS2.apart hrow2 (by decide))
  have bX3 := bX2.grown hgr (bX2.apart hrow2 (by decide))
  have oth : ∀ {k : Nat} {t : TypeId} {cs : Array Value}, w.heap.size ≠ k → Wd.Bx w3 k t cs → Wd.Bx (w3.setCell ⟨w.heap.size, 0, none⟩ v') k t cs := fun {k t cs} hk h => by
    unfold Wd.Bx
    rw [heap_setCell_other w3 _ k _ (fun e => hk e.symm)]
    exact h
  have hbl : Below w.heap.size W (w3.setCell ⟨w.heap.size, 0, none⟩ v') :=
    ((hW.mono hsz).grown hgr (Nat.le_trans hsz hW.size) (fun k hk => (hrow2.lt k hk).1)).setCell (Nat.le_refl _) _
  have bS4 : Boxed (w3.setCell ⟨w.heap.size, 0, none⟩ v') (w.heap.size + 1) 25 (.slice A m c) := oth (by omega) bS3
  refine ⟨bV3, bX3, oth (by omega) bX3, ?_, ⟨hbl, ?_⟩, ⟨⟨v', bV3.set v', ?_, trivial⟩, bS4, hB.trans hbl⟩⟩
  · have k1 : KeepsFrom (w.heap.size + 1 + 1) W w2 := keepsFrom_below hW
    have k2 : KeepsOthers w2 w3 := KeepsOthers.of_grownBy hgr fun j o ej hj => by
      rcases hrow2.2 with ⟨rfl, _⟩ | ⟨g', cap, cur, rfl, _, hgb, _⟩
      · simp [Value.ownBlock] at ej
      · obtain rfl : g' = j := by simpa [Value.ownBlock] using ej
        rw [hgb] at hj; cases hj; rfl
    exact (k1.trans (k2.from _)).trans ((KeepsOthers.setCell _ _ _).from _)
  · rw [show (w3.setCell ⟨w.heap.size, 0, none⟩ v').heap[w.heap.size + 1]? = _ from bS4]
    exact Eq.symm bS
  · rw [vals_snoc, show x.1 = (x.1.1, x.1.2) from rfl, Rn.runB_snoc, ← hds]
    exact hown.kept (grownBy_setCell' w3 w.heap.size v') (.inr (bV3.not_row (by decide) hown).symm)
set_option maxRecDepth 100000 in
set_option maxHeartbeats 2000000 in
theorem putRuns_in (n : Nat) (hn : 3 ≤ n) (A : Option Addr) (m c : Nat) (l : List Int) (w : World) (hS : Wd.Sl w .i64 A m c l) (hm : m ≤ 100000) (hF : Rn.Fits l) :
    CallsIn Fence.wide n Tryz.prog 145 #[.slice A m c] w (Wd.Out w .u8 (Rn.runB (Rn.runs l))) := by
  have h1 : 1 ≤ n := by omega
  obtain ⟨i0, hi, hz0, hz1, hz2⟩ := info_parts info_u8
  refine callsIn_of_wp_marks Tryz.func145 rfl trivial ?_ rfl
  simp only [Tryz.ntmps145, List.size_toArray, List.length_cons, List.length_nil, Nat.reduceAdd, Nat.reduceSub, Array.replicate_succ, Array.replicate_zero, List.push_toArray, List.append_toArray, List.nil_append, List.cons_append]
  gi_wp2_with (refine ⟨trivial, ?_⟩; gi_at_call 194; refine (eachRun_in (n - 1) _ _ _ _).mono ?_; rintro e w' ⟨rfl, rfl⟩)
  have bO := Boxed.new w 32 (.slice none 0 0)
  have bL := Boxed.new (w.alloc (.cells #[.slice none 0 0] 32)) 25 (.slice A m c)
  rw [World.size_alloc] at bL
  have hB0 : Below w.heap.size w ((w.alloc (.cells #[.slice none 0 0] 32)).alloc (.cells #[.slice A m c] 25)) := ((Below.refl _ w).alloc (Nat.le_refl _) _).alloc (by simp) _
  have hI0 : PutI w A m c [] ((w.alloc (.cells #[.slice none 0 0] 32)).alloc (.cells #[.slice A m c] 25)) := ⟨⟨_, bO.alloc _, World.ownsRow_nil _ _ _ _, trivial⟩, bL, hB0⟩
  refine wpIn_rangeFunc_ownH rfl h1 (gf := 235) (lb := #[.pointer (some ⟨w.heap.size + 1, 0, none⟩)]) rfl trivial (enters_of Tryz.func235 (by kernel_rfl) rfl)
    (each_stops (n - 1) (by omega) (w.heap.size + 1) w.heap.size A m c l hF (by omega) _ bL (by simp; omega) hS.len (hS.rd.below hB0)) Keeps.trans (keeps_b (by simp; omega) (by simp)) (Below.refl _ _) (fun _ => rfl)
    (PutI w A m c) (fun _ _ _ => False) (putI_own w A m c _ (by simp; omega)) (fun _ _ _ _ _ hs _ _ => hs) hI0 (PutAx w A m c) (fun x a' => putAx_own w A m c _ x a') ?assign ?body ?done ?stop
  case assign =>
    rintro l' pre x W K ⟨⟨v, h1, h2, _⟩, h3, h4⟩ hK
    gi_wp2
    exact hK _ _ ((KeepsOthers.alloc _ _).from _) ⟨(Below.refl _ W).alloc h4.size _, Below.heap_alloc W _ _ h3.lt⟩ ⟨⟨v, h1.alloc _, h2.alloc _, trivial⟩, h3.alloc _, h4.alloc h4.size _⟩ ⟨W.heap.size, Wd.Bx.new _ _ _, h3.lt, rfl⟩
  case body =>
    rintro l' pre x a' W hl' ⟨r, hr⟩ ⟨⟨v, bV, hrow, _⟩, bS, hB⟩ ⟨g, bX, hg, rfl⟩ hlt
    have cV := bV.cell
    have fV := bV.frozen
    have cX0 : W.cell? ⟨g, 0, none⟩ = some (.int .i64 x.1.1) := bX.cell 0
    have cX1 : W.cell? ⟨g, 1, none⟩ = some (.int .i64 x.1.2) := bX.cell 1
    have hsz := hB.size
    clear hI0 hB0 bO bL hr hl'
    gi_wp2
    refine wpIn_region_any (by kernel_rfl) ?_
    refine Rg.any_in (Rg.noDefer_spec (by kernel_rfl)) (fun ⟨a, w', h⟩ => h) _ _ _ _ ?_
    refine wpAny_of_held (S := fun w' => w'.cell? ⟨g, 0, none⟩ = some (.int .i64 x.1.1) ∧ w'.cell? ⟨g, 1, none⟩ = some (.int .i64 x.1.2)) _ _ _ _ ?_
    change wpAnyH _ _ _ _ _ 9 (Array.replicate 9 false) _ W.drew
    have hH : W.drew.cell? ⟨g, 0, none⟩ = some (.int .i64 x.1.1) ∧ W.drew.cell? ⟨g, 1, none⟩ = some (.int .i64 x.1.2) := ⟨cX0, cX1⟩
    refine wpAnyH_take (i := 1) (v := .pointer (some ⟨g, 0, none⟩)) rfl (by kernel_rfl) (by kernel_rfl) (by kernel_rfl) (fun _ _ _ h => h) (Or.inl ⟨by rfl, ?_⟩) hH ?_
    · rintro w' ⟨s0, s1⟩
      go_simp
    refine wpAnyH_take (i := 2) (v := .int .i64 x.1.1) rfl (by kernel_rfl) (by kernel_rfl) (by kernel_rfl) (fun _ _ _ h => h) (Or.inl ⟨by rfl, ?_⟩) hH ?_
    · rintro w' ⟨s0, s1⟩
      go_simp
    refine wpAnyH_take (i := 4) (v := .pointer (some ⟨g, 1, none⟩)) rfl (by kernel_rfl) (by kernel_rfl) (by kernel_rfl) (fun _ _ _ h => h) (Or.inl ⟨by rfl, ?_⟩) hH ?_
    · rintro w' ⟨s0, s1⟩
      go_simp
    refine wpAnyH_take (i := 5) (v := .int .i64 x.1.2) rfl (by kernel_rfl) (by kernel_rfl) (by kernel_rfl) (fun _ _ _ h => h) (Or.inl ⟨by rfl, ?_⟩) hH ?_
    · rintro w' ⟨s0, s1⟩
      go_simp
    have hx3 : -9223372036854775808 ≤ x.1.2 := by have := x.2.2; omega
    have hx4 : x.1.2 ≤ 9223372036854775807 := by have := x.2.2; omega
    have hx5 : ¬ x.1.2 < 0 := by have := x.2.2; omega
    have l1 := (Nm.vd_len (Nm.zz x.1.1)).2
    have l2 := (Nm.vd_len x.1.2).2
    have l3 := Rn.runB_len (vals pre)
    have l4 : (vals pre).length ≤ 100000 := by simp only [vals, List.length_map]; omega
    refine wpAnyH_ready (rs := [0, 3]) (by kernel_rfl) (by simp) ?_
    refine AllReadyH.cons rfl (fun K hK => ?_) (AllReadyH.cons rfl (fun K hK => ?_) AllReadyH.nil)
    · go_simp
      refine hK.out _ _ hH (fun _ => ?_)
      clear hK K
      refine wpAnyH_ready (rs := [3]) (by kernel_rfl) (by simp) ?_
      refine AllReadyH.cons rfl (fun K hK => ?_) AllReadyH.nil
      go_simp
      refine (put_any none 0 0 [] x.1.1 _ (Wd.Sl.none_ _ _) (by omega) x.2.1.1 x.2.1.2).mono ?_
      rintro e w1 ⟨A1, n1, c1, rfl, hS1, hB1⟩
      have hB1' : Below W.heap.size W w1 := Wd.of_drew hB1
      have hX1 := bX.below bX.lt hB1'
      have cV1 : w1.cell? ⟨w.heap.size, 0, none⟩ = some v := (hB1'.cell (p := ⟨w.heap.size, 0, none⟩) bV.lt).trans cV
      have hn1 : n1 ≤ 10 := by rw [hS1.len]; exact (Nm.vd_len (Nm.zz x.1.1)).2
      rw [List.nil_append] at hS1
      clear hB1
      refine hK.out _ _ ⟨hX1.cell 0, hX1.cell 1⟩ (fun _ => ?_)
      clear hK K
      refine wpAnyH_ready (rs := [6]) (by kernel_rfl) (by simp) ?_
      refine AllReadyH.cons rfl (fun K hK => ?_) AllReadyH.nil
      go_simp
      refine (putLen_any A1 n1 c1 _ x.1.2 w1 hS1 (by omega) hx3 hx4).mono ?_
      rintro e w2 ⟨A2, n2, c2, rfl, hS2, hB2⟩
      have hB2' : Below W.heap.size W w2 := hB1'.trans (hB2.mono hB1'.size)
      have hX2 := bX.below bX.lt hB2'
      have cV2 : w2.cell? ⟨w.heap.size, 0, none⟩ = some v := (hB2'.cell (p := ⟨w.heap.size, 0, none⟩) bV.lt).trans cV
      rw [if_neg hx5] at hS2
      clear hB2 hX1 cV1
      refine hK.out _ _ ⟨hX2.cell 0, hX2.cell 1⟩ (fun _ => ?_)
      clear hK K
      refine wpAnyH_ready (rs := [7]) (by kernel_rfl) (by simp) ?_
      refine AllReadyH.cons rfl (fun K hK => ?_) AllReadyH.nil
      refine step_app w2 rfl (.tmp 8) (.tmp 14) 32 rfl w.heap.size 5 i0 _ .u8 1 Tryz.underlying32 hi hz0 hz1 hz2 rfl v _ rfl (Wd.own_below hrow hB2') w2.heap.size A2 n2 c2 _ rfl hS2.len hS2.nil hS2.rd (by simp only [List.length_append]; omega) (by simp only [List.length_append]; unfold maxLen; omega) (Nat.le_trans hsz hB2'.size) ?_
      intro v' w3 hown3 hg3
      obtain ⟨bV3, bX3, bX4, f1, f2, f3⟩ := put_end (x := x) bV hrow bS hB bX hg hB2' rfl hown3 hg3
      have c3 := bV3.cell
      have c4 := bV3.frozen
      obtain ⟨A3, n3, k3, rfl, hS3⟩ := Wd.Sl.of_own hown3
      refine hK.out _ _ ⟨bX3.cell 0, bX3.cell 1⟩ (fun _ => ?_)
      clear hK K
      refine wpAnyH_ready (rs := [8]) (by kernel_rfl) (by simp) ?_
      refine AllReadyH.cons rfl (fun K hK => ?_) AllReadyH.nil
      go_simp
      refine hK.out _ _ ⟨bX4.cell 0, bX4.cell 1⟩ (fun _ => ?_)
      refine wpAnyH_done (by kernel_rfl) ?_ _
      exact ⟨by simpa using f1, f2, f3⟩
    · go_simp
      refine (put_any none 0 0 [] x.1.1 _ (Wd.Sl.none_ _ _) (by omega) x.2.1.1 x.2.1.2).mono ?_
      rintro e w1 ⟨A1, n1, c1, rfl, hS1, hB1⟩
      have hB1' : Below W.heap.size W w1 := Wd.of_drew hB1
      have hX1 := bX.below bX.lt hB1'
      have cV1 : w1.cell? ⟨w.heap.size, 0, none⟩ = some v := (hB1'.cell (p := ⟨w.heap.size, 0, none⟩) bV.lt).trans cV
      have hn1 : n1 ≤ 10 := by rw [hS1.len]; exact (Nm.vd_len (Nm.zz x.1.1)).2
      rw [List.nil_append] at hS1
      clear hB1
      refine hK.out _ _ ⟨hX1.cell 0, hX1.cell 1⟩ (fun _ => ?_)
      clear hK K
      refine wpAnyH_ready (rs := [0, 6]) (by kernel_rfl) (by simp) ?_
      refine AllReadyH.cons rfl (fun K hK => ?_) (AllReadyH.cons rfl (fun K hK => ?_) AllReadyH.nil)
      · go_simp
        refine hK.out _ _ ⟨hX1.cell 0, hX1.cell 1⟩ (fun _ => ?_)
        clear hK K
        refine wpAnyH_ready (rs := [6]) (by kernel_rfl) (by simp) ?_
        refine AllReadyH.cons rfl (fun K hK => ?_) AllReadyH.nil
        go_simp
        refine (putLen_any A1 n1 c1 _ x.1.2 w1 hS1 (by omega) hx3 hx4).mono ?_
        rintro e w2 ⟨A2, n2, c2, rfl, hS2, hB2⟩
        have hB2' : Below W.heap.size W w2 := hB1'.trans (hB2.mono hB1'.size)
        have hX2 := bX.below bX.lt hB2'
        have cV2 : w2.cell? ⟨w.heap.size, 0, none⟩ = some v := (hB2'.cell (p := ⟨w.heap.size, 0, none⟩) bV.lt).trans cV
        rw [if_neg hx5] at hS2
        clear hB2 hX1 cV1
        refine hK.out _ _ ⟨hX2.cell 0, hX2.cell 1⟩ (fun _ => ?_)
        clear hK K
        refine wpAnyH_ready (rs := [7]) (by kernel_rfl) (by simp) ?_
        refine AllReadyH.cons rfl (fun K hK => ?_) AllReadyH.nil
        refine step_app w2 rfl (.tmp 8) (.tmp 14) 32 rfl w.heap.size 5 i0 _ .u8 1 Tryz.underlying32 hi hz0 hz1 hz2 rfl v _ rfl (Wd.own_below hrow hB2') w2.heap.size A2 n2 c2 _ rfl hS2.len hS2.nil hS2.rd (by simp only [List.length_append]; omega) (by simp only [List.length_append]; unfold maxLen; omega) (Nat.le_trans hsz hB2'.size) ?_
        intro v' w3 hown3 hg3
        obtain ⟨bV3, bX3, bX4, f1, f2, f3⟩ := put_end (x := x) bV hrow bS hB bX hg hB2' rfl hown3 hg3
        have c3 := bV3.cell
        have c4 := bV3.frozen
        obtain ⟨A3, n3, k3, rfl, hS3⟩ := Wd.Sl.of_own hown3
        refine hK.out _ _ ⟨bX3.cell 0, bX3.cell 1⟩ (fun _ => ?_)
        clear hK K
        refine wpAnyH_ready (rs := [8]) (by kernel_rfl) (by simp) ?_
        refine AllReadyH.cons rfl (fun K hK => ?_) AllReadyH.nil
        go_simp
        refine hK.out _ _ ⟨bX4.cell 0, bX4.cell 1⟩ (fun _ => ?_)
        refine wpAnyH_done (by kernel_rfl) ?_ _
        exact ⟨by simpa using f1, f2, f3⟩
      · go_simp
        refine (putLen_any A1 n1 c1 _ x.1.2 w1 hS1 (by omega) hx3 hx4).mono ?_
        rintro e w2 ⟨A2, n2, c2, rfl, hS2, hB2⟩
        have hB2' : Below W.heap.size W w2 := hB1'.trans (hB2.mono hB1'.size)
        have hX2 := bX.below bX.lt hB2'
        have cV2 : w2.cell? ⟨w.heap.size, 0, none⟩ = some v := (hB2'.cell (p := ⟨w.heap.size, 0, none⟩) bV.lt).trans cV
        rw [if_neg hx5] at hS2
        clear hB2 hX1 cV1
        refine hK.out _ _ ⟨hX2.cell 0, hX2.cell 1⟩ (fun _ => ?_)
        clear hK K
        refine wpAnyH_ready (rs := [0]) (by kernel_rfl) (by simp) ?_
        refine AllReadyH.cons rfl (fun K hK => ?_) AllReadyH.nil
        go_simp
        refine hK.out _ _ ⟨hX2.cell 0, hX2.cell 1⟩ (fun _ => ?_)
        clear hK K
        refine wpAnyH_ready (rs := [7]) (by kernel_rfl) (by simp) ?_
        refine AllReadyH.cons rfl (fun K hK => ?_) AllReadyH.nil
        refine step_app w2 rfl (.tmp 8) (.tmp 14) 32 rfl w.heap.size 5 i0 _ .u8 1 Tryz.underlying32 hi hz0 hz1 hz2 rfl v _ rfl (Wd.own_below hrow hB2') w2.heap.size A2 n2 c2 _ rfl hS2.len hS2.nil hS2.rd (by simp only [List.length_append]; omega) (by simp only [List.length_append]; unfold maxLen; omega) (Nat.le_trans hsz hB2'.size) ?_
        intro v' w3 hown3 hg3
        obtain ⟨bV3, bX3, bX4, f1, f2, f3⟩ := put_end (x := x) bV hrow bS hB bX hg hB2' rfl hown3 hg3
        have c3 := bV3.cell
        have c4 := bV3.frozen
        obtain ⟨A3, n3, k3, rfl, hS3⟩ := Wd.Sl.of_own hown3
        refine hK.out _ _ ⟨bX3.cell 0, bX3.cell 1⟩ (fun _ => ?_)
        clear hK K
        refine wpAnyH_ready (rs := [8]) (by kernel_rfl) (by simp) ?_
        refine AllReadyH.cons rfl (fun K hK => ?_) AllReadyH.nil
        go_simp
        refine hK.out _ _ ⟨bX4.cell 0, bX4.cell 1⟩ (fun _ => ?_)
        refine wpAnyH_done (by kernel_rfl) ?_ _
        exact ⟨by simpa using f1, f2, f3⟩
  case done =>
    rintro D ys W hD hys ⟨⟨v, bV, hrow, _⟩, bS, hB⟩ hK
    have cV := bV.cell
    gi_wp2
    refine ⟨by simp, .inl ⟨_, _, rfl, run_takeDeferred hK, ?_⟩⟩
    have hrow' := ownsRow_putObj hrow (.deferred none) hK rfl
    rw [hys] at hrow'
    obtain ⟨A', n', c', rfl, hSr⟩ := Wd.Sl.of_own hrow'
    exact ⟨_, results_tmp rfl _ _ _, ⟨_, _, _, rfl, hSr, hB.trans (belowK_b (w := w) (Nat.le_refl _) W D _ _ (by simp at hD; omega) hK rfl rfl)⟩⟩
  case stop =>
    rintro D c pre W _ _ h _
    exact h.elim
theorem putRuns_any (A : Option Addr) (m c : Nat) (l : List Int) (w : World) (hS : Wd.Sl w .i64 A m c l) (hm : m ≤ 100000) (hF : Rn.Fits l) :
    Calls Tryz.prog 145 #[.slice A m c] w (Wd.Out w .u8 (Rn.runB (Rn.runs l))) := (callsIn_wide (n := 3)).1 (putRuns_in 3 (by omega) A m c l w hS hm hF)
end Rc
end Go.Proofs.YtaoeipehpakngaaGreatDoor
namespace Go.Proofs.YtaoeipehpakngaaGreatDoor
open Go.RowKit
namespace Rc
open Nc
def fput : Nat → Nat
  | 0 => 143
  | 1 => 145
  | _ => 147
def fget : Nat → Nat
  | 0 => 144
  | 1 => 146
  | _ => 148
def fnv (f : Nat) : Value := .func (.func f) #[] #[]
def kindCells : Array Value := #[fnv (fput 0), fnv (fget 0), fnv (fput 1), fnv (fget 1), fnv (fput 2), fnv (fget 2)]
theorem kinds_any (w : World) : Calls Tryz.prog 93 #[] w fun e w' => e = .returned (.slice (some ⟨w.heap.size, 0, none⟩) 3 3) ∧ w' = w.alloc (.cells kindCells 127) := by
  go_enter Tryz.func93, Tryz.ntmps93
  go_wp2
  go_ret
  exact ⟨rfl, rfl⟩
def Goes (f : Nat) : Prop := ∀ (args : Array Value) (w : World), (callFunc f args).run Tryz.prog w = .ok (.enter f args) w
set_option maxRecDepth 1000000 in
theorem goes_put (k : Nat) (hk : k < 3) : Goes (fput k) := by
  match k, hk with
  | 0, _ => exact fun args w => by kernel_rfl
  | 1, _ => exact fun args w => by kernel_rfl
  | 2, _ => exact fun args w => by kernel_rfl
theorem fput_any (k : Nat) (hk : k < 3) (A : Option Addr) (m c : Nat) (l : List Int) (w : World) (hS : Wd.Sl w .i64 A m c l) (hm : m ≤ 100000) (hF : Rn.Fits l) :
    Calls Tryz.prog (fput k) #[.slice A m c] w (Wd.Out w .u8 (Rn.body l k)) := by
  match k, hk with
  | 0, _ => exact putPlain_any A m c l w hS hm hF
  | 1, _ => exact putRuns_any A m c l w hS hm hF
  | 2, _ => exact putDeltas_any A m c l w hS hm
theorem putLen_own (A : Option Addr) (m c : Nat) (bs : List Int) (n : Int) (w : World) (hb : Wd.Sl w .u8 A m c bs) (hm : m ≤ 10000000) (h0 : 0 ≤ n) (h1 : n ≤ 9223372036854775807) :
    Calls Tryz.prog 50 #[.slice A m c, .int .i64 n] w fun e w' => ∃ v, e = .returned v ∧ w'.ownsRow w.heap.size 5 1 v (bs ++ Nm.vd n).length ((bs ++ Nm.vd n).map (Value.int .u8)) ∧ Below w.heap.size w w' := by
  obtain ⟨rfl, hc, _, _, hr⟩ := hb
  go_enter Tryz.func50, Tryz.ntmps50
  go_wp2_with fail
  refine (putVarint_own A c bs n w hr hc hm (by omega) (by omega)).mono ?_
  rintro e w' ⟨v, rfl, hO⟩
  go_wp2_with fail
  go_ret
  exact ⟨v, rfl, hO⟩
def EncV (W : World) (l : List Int) (k : Nat) (v : Value) : Prop :=
  (k = 0 ∧ v = .slice none 0 0) ∨ (1 ≤ k ∧ ∃ ad n c, v = .slice (some ad) n c ∧ Wd.Sl W .u8 (some ad) n c (Rn.block l (Rn.bi l k)))
theorem EncV.below {W W' : World} {l : List Int} {k : Nat} {v : Value} (h : EncV W l k v) (hb : Below W.heap.size W W') : EncV W' l k v := by
  rcases h with h | ⟨h1, ad, n, c, h2, h3⟩
  · exact .inl h
  · exact .inr ⟨h1, ad, n, c, h2, h3.below hb⟩
theorem some_of {W : World} {k : IntKind} {A : Option Addr} {n c : Nat} {ys : List Int} (h : Wd.Sl W k A n c ys) (h0 : 0 < ys.length) : ∃ ad, A = some ad := by
  obtain ⟨b, o, e, _⟩ := h.rd.some_ h0
  exact ⟨_, e⟩
set_option maxRecDepth 100000 in
set_option maxHeartbeats 2000000 in
theorem encode_ok (A : Option Addr) (m c : Nat) (l : List Int) (w : World) (hS : Wd.Sl w .i64 A m c l) (hm : m ≤ 4096) (hF : Rn.Fits l) :
    Calls Tryz.prog 46 #[.slice A m c] w (Wd.Out2 w .u8 (Rn.enc l) 0) := by
  obtain ⟨i0, hi, hz0, hz1, hz2⟩ := info_parts info_u8
  have hl := hS.len
  have Hl := Lib.hid hl
  have hcap := hS.cap
  have HF := Lib.hid hF
  have hdm : decide ((4096 : Int) < (m : Int)) = false := by simp; omega
  clear hl hF
  go_enter Tryz.func46, Tryz.ntmps46
  go_wp2_with fail
  refine (kinds_any w).mono ?_
  rintro e w1 ⟨rfl, rfl⟩
  have hX0 := Wd.Bx.new w 127 kindCells
  have hb0 : Below w.heap.size w (w.alloc (.cells kindCells 127)) := (Below.refl _ _).alloc (Nat.le_refl _) _
  generalize w.alloc (.cells kindCells 127) = w1 at *
  go_wp2_with fail
  go_loopw [4, 13] (fun v i wr => ∃ k : Nat, i = .int .i64 k ∧ k ≤ 3 ∧ Hid (EncV wr l k v) ∧ Wd.Bx wr w.heap.size 127 kindCells ∧ Below w.heap.size w wr) (fun _ i _ => 3 - (intOf i).toNat)
  case atStart => exact ⟨0, rfl, Nat.zero_le _, Lib.hid (.inl ⟨rfl, rfl⟩), hX0, hb0⟩
  case round =>
    clear hX0 hb0
    obtain ⟨k, rfl, hk, hV, hX, hB⟩ := hrel
    by_cases hlt : k < 3
    · have cK : wr.cell? ⟨w.heap.size, k * 2, none⟩ = some (fnv (fput k)) := by
        rw [hX.cell]
        match k, hlt with
        | 0, _ => rfl
        | 1, _ => rfl
        | 2, _ => rfl
      have cK1 : wr.cell? ⟨w.heap.size, k * 2 + 1, none⟩ = some (fnv (fget k)) := by
        rw [hX.cell]
        match k, hlt with
        | 0, _ => rfl
        | 1, _ => rfl
        | 2, _ => rfl
      have hgo := goes_put k hlt
      have hdk : decide ((k : Int) < 3) = true := by simp; omega
      have hfp := fun w hS => fput_any k hlt A m c l w hS (by omega) HF.out
      have hbl := Rn.body_len l k
      rw [← Hl.out] at hbl
      have HX := Lib.hid hX
      have Hfp := Lib.hid hfp
      unfold Goes at hgo
      clear hX hfp
      unfold fnv at cK cK1
      generalize fput k = f at *
      generalize fget k = f' at *
      obtain ⟨wo, rfl⟩ : ∃ wo : World, wo = wr := ⟨_, rfl⟩
      have hSo := hS.below hB
      obtain ⟨ds, hds⟩ : ∃ ds, ds = Rn.body l k := ⟨_, rfl⟩
      rw [← hds] at hbl Hfp
      have Hds := Lib.hid hds
      clear hds
      have hvl := Nm.vd_len (m : Int)
      have hwk : IntKind.u8.wrap (k : Int) = (k : Int) := by
        match k, hlt with
        | 0, _ => rfl
        | 1, _ => rfl
        | 2, _ => rfl
      have tok1 : True := trivial
      go_upto_region 7 with fail
      have bF := Wd.Bx.new wo 127 #[.func (.func f) #[] #[], .func (.func f') #[] #[]]
      have hb7 : Below wo.heap.size wo (wo.alloc (.cells #[.func (.func f) #[] #[], .func (.func f') #[] #[]] 127)) := (Below.refl _ _).alloc (Nat.le_refl _) _
      have hz7 : wo.heap.size < (wo.alloc (.cells #[.func (.func f) #[] #[], .func (.func f') #[] #[]] 127)).heap.size := by simp
      generalize hw7 : wo.alloc (.cells #[.func (.func f) #[] #[], .func (.func f') #[] #[]] 127) = w7 at *
      clear hw7
      have hc7 : w7.cell? ⟨wo.heap.size, 0, none⟩ = some (.func (.func f) #[] #[]) := bF.cell 0
      have hb8 : Below w7.heap.size w7 (w7.alloc (.cells #[.int .u8 (k : Int)] 5)).drew := ((Below.refl _ w7).alloc (Nat.le_refl _) _).drew
      have hS8 : Wd.Sl (w7.alloc (.cells #[.int .u8 (k : Int)] 5)).drew .u8 (some ⟨w7.heap.size, 0, none⟩) 1 1 [(k : Int)] := (Wd.Sl.lit w7 .u8 [(k : Int)] _ _ 1 rfl rfl (by decide)).below ((Below.refl _ _).drew)
      have hpl := putLen_own (some ⟨w7.heap.size, 0, none⟩) 1 1 [(k : Int)] (m : Int) _ hS8 (by omega) (by omega) (by omega)
      have Hpl := Lib.hid hpl
      clear hpl hS8
      go_cut [7] (fun s wx => ∃ A9 n9 c9, s = .slice A9 n9 c9 ∧ Wd.Sl wx .u8 A9 n9 c9 (([(k : Int)] ++ Nm.vd m) ++ ds) ∧ Below wo.heap.size wo wx)
      case first =>
        go_region_held3 (fun w' => w'.cell? ⟨wo.heap.size, 0, none⟩ = some (.func (.func f) #[] #[])) (first | exact hc11 | exact hc10 | exact hc9 | go_keep) (first | (refine step_app _ rfl (.tmp 23) (.tmp 27) 32 rfl w7.heap.size 5 i0 _ .u8 1 Tryz.underlying32 hi hz0 hz1 hz2 rfl v9 _ rfl hown10 w10.heap.size A10 n10 c10 ds rfl hS10.len hS10.nil hS10.rd (by simp only [List.length_append, List.length_cons, List.length_nil]; omega) (by simp only [List.length_append, List.length_cons, List.length_nil]; unfold maxLen; omega) hz10 ?_; intro v11 w11 hown11 hg11; have hb11 : Below w7.heap.size w7 w11 := hb10.grown hg11 hz10 (fun g hg => (hown10.lt g hg).1); have hc11 := (hb11.cell (p := ⟨wo.heap.size, 0, none⟩) hz7).trans hc7) | (go_at_call 50; have _t := tok1; (with_reducible refine Hpl.out.mono ?_); clear tok1; rintro e w9 ⟨v9, rfl, hown9, hB9⟩; have hb9 : Below w7.heap.size w7 w9 := hb8.trans (hB9.mono hb8.size); have hown9' := Wd.own_down hown9 hb8.size; have hc9 := (hb9.cell (p := ⟨wo.heap.size, 0, none⟩) hz7).trans hc7) | ((with_reducible refine (Hfp.out _ ((hSo.below hb7).below hb9)).mono ?_); rintro e w10 ⟨A10, n10, c10, rfl, hS10, hB10⟩; have hb10 : Below w7.heap.size w7 w10 := hb9.trans (hB10.mono hb9.size); have hown10 := Wd.own_below hown9' hB10; have hz10 := hb10.size; have hc10 := (hb10.cell (p := ⟨wo.heap.size, 0, none⟩) hz7).trans hc7))
        obtain ⟨A11, n11, c11, rfl, hS11⟩ := Wd.Sl.of_own hown11
        go_wp2_with fail
        go_meet
        exact ⟨A11, n11, c11, rfl, hS11, hb7.trans (hb11.mono hb7.size)⟩
      case rest =>
        obtain ⟨A9, n9, c9, rfl, hS9, hB9⟩ := hcut
        have eb : ([(k : Int)] ++ Nm.vd m) ++ ds = Rn.block l k := by
          rw [Hds.out, Hl.out]; rfl
        rw [eb] at hS9
        have h2 := Rn.block_ge l k
        obtain ⟨ad9, rfl⟩ := some_of hS9 (by omega)
        have hV9 := hV.out.below hB9
        have HX9 := Lib.hid (HX.out.below HX.out.lt hB9)
        have hW9 : Below w.heap.size w _ := hB.trans (hB9.mono hB.size)
        have HS9 := Lib.hid hS9
        have hn9 : n9 ≤ 100000 := by rw [hS9.len]; have := Rn.block_le l k; have := Hl.out; omega
        have HB9 := Lib.hid hB9
        have HW9 := Lib.hid hW9
        clear bF hb7 hz7 hc7 hb8 Hpl hS9 h2 hV hgo hB9 hW9 cK cK1 Hfp HX hSo hB eb tok1
        rcases hV9 with ⟨hk0, rfl⟩ | ⟨hk1, ad, n4, c4, rfl, hS4⟩
        · have hnil : ∀ (w : World) (n c : Nat), (binOp .eql 32 (.slice none n c) (.slice none 0 0)).run Tryz.prog w = .ok (.bool true) w := fun _ _ _ => by kernel_rfl
          have hE : Rn.bi l (k + 1) = k := by rw [hk0]; exact Rn.bi_one l
          have HE := Lib.hid hE
          clear hE hk0
          go_wp2_with fail
          go_roundw
          case rel => exact ⟨k + 1, by go_num, by omega, Lib.hid (.inr ⟨by omega, ad9, n9, c9, rfl, by rw [HE.out]; exact HS9.out⟩), HX9.out, HW9.out⟩
          case measure => simp [intOf]; omega
        · have hnil : ∀ (w : World) (n c : Nat), (binOp .eql 32 (.slice (some ad) n c) (.slice none 0 0)).run Tryz.prog w = .ok (.bool false) w := fun _ _ _ => by kernel_rfl
          have hE : Rn.bi l (k + 1) = if n9 < n4 then k else Rn.bi l k := by
            rw [HS9.out.len, hS4.len, Rn.block_len, Rn.block_len, Rn.bi]
            by_cases q : (Rn.body l k).length < (Rn.body l (Rn.bi l k)).length
            · rw [if_pos q, if_pos (by omega)]
            · rw [if_neg q, if_neg (by omega)]
          have HE := Lib.hid hE
          have HS4 := Lib.hid hS4
          clear hE hS4
          by_cases q : n9 < n4
          · go_wp2_with fail
            go_roundw
            case rel => exact ⟨k + 1, by go_num, by omega, Lib.hid (.inr ⟨by omega, ad9, n9, c9, rfl, by rw [HE.out, if_pos q]; exact HS9.out⟩), HX9.out, HW9.out⟩
            case measure => simp [intOf]; omega
          · go_wp2_with fail
            go_roundw
            case rel => exact ⟨k + 1, by go_num, by omega, Lib.hid (.inr ⟨by omega, ad, n4, c4, rfl, by rw [HE.out, if_neg q]; exact HS4.out⟩), HX9.out, HW9.out⟩
            case measure => simp [intOf]; omega
    · obtain rfl : k = 3 := by omega
      rcases hV.out with ⟨hk0, _⟩ | ⟨_, ad, n4, c4, rfl, hS4⟩
      · omega
      · go_wp2_with fail
        go_ret2
        exact ⟨_, _, _, rfl, hS4, hB⟩
end Rc
end Go.Proofs.YtaoeipehpakngaaGreatDoor
