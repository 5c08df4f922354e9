/- What runs.putRuns does: it writes the runs that eachRun hands on. -/
import Derived.Deep.RegionHeld3
import Derived.Test.YtejhnmahmnbmkaaRoundDraw
import Derived.Test.YtejhnmahmnbmkaaRunRuns
namespace Go.Proofs.Ytejhnmahmnbmkaa
open Go.RowKit Go.Shelf
attribute [local go_sem] Oper.semAt_some
namespace Rc
open Nc

/-- A round of putRuns: the box of the bytes, the box of the list. -/
def PutI (w : World) (A : Option Addr) (m c : Nat) (pre : List Run) (W : World) : Prop :=
  (∃ v, Boxed W w.heap.size 33 v ∧ W.ownsRow w.heap.size 5 1 v (Rn.runB (vals pre)).length ((Rn.runB (vals pre)).map (Value.int .u8)) ∧ True) ∧ Boxed W (w.heap.size + 1) 22 (.slice A m c) ∧ Below w.heap.size w W
def PutAx (w : World) (A : Option Addr) (m c : Nat) (x : Run) (a' : Act) (W : World) : Prop :=
  ∃ g, Wd.Bx W g 44 #[.int .i64 x.1.1, .int .i64 x.1.2] ∧ w.heap.size + 1 < g ∧
    a' = { tmps := #[.slice A m c, undef, .slice none 0 0, .pointer (some ⟨w.heap.size, 0, none⟩), .pointer (some ⟨g, 0, none⟩), .slice A m c, .func (.func 38) #[] #[.pointer (some ⟨w.heap.size + 1, 0, none⟩)], .agg #[.int .i64 x.1.1, .int .i64 x.1.2], undef, undef, undef, undef, undef, undef, undef, undef, undef], defers := [] }
theorem putAx_own (w : World) (A : Option Addr) (m c : Nat) (B : Nat) (x : Run) (a' : Act) : OwnFrom B (fun (_ : Unit) W => PutAx w A m c x a' W) := fun _ X Y row ⟨g, h1, h2, h3⟩ hg hrow =>
  ⟨g, bx_own (β := Unit) g _ _ () X Y row h1 hg (fun r e => (hrow r e).2), h2, h3⟩
theorem putI_own (w : World) (A : Option Addr) (m c : Nat) (B : Nat) (hB : w.heap.size ≤ B) : OwnFrom B (PutI w A m c) :=
  OwnFrom.and (Own.from (holdsRow_own w.heap.size w.heap.size _ _ 1 (fun pre : List Run => (Rn.runB (vals pre)).length) (fun pre => (Rn.runB (vals pre)).map (Value.int .u8)) (fun _ _ => True)) _) (OwnFrom.and (Own.from (bx_own _ _ _) _) (ownFrom_below (Nat.le_refl _) hB))

/-- append(out, xs...) as one step of a region that draws. -/
theorem step_app {P : Program} (w : World) {ops : Array Oper} {o : Oper} {a : Act} {K : Act → World → Prop} {Q : Exit → Act → World → Prop} {E : Prop} (hgd : o.guard = none) (s x : Operand) (t : TypeId)
    (ho : o.op = .call { callee := .builtin .append, args := #[s, x], argTypes := #[t, t] })
    (B : Nat) (e : TypeId) (i : TypeInfo) (z : Value) (k : IntKind) (bytes : Nat) (ht : P.underlying t = some (.slice e)) (hi : P.info? e = some i) (hz : i.zero = some z)
    (hsize : i.size = 1) (hby : i.bytes = bytes) (hzs : z.cells.size = 1)
    (v : Value) (xs : List Int) (hs : a.eval s = v) (hown : w.ownsRow B e 1 v xs.length (xs.map (Value.int k)))
    (B' : Nat) (A : Option Addr) (m c : Nat) (ys : List Int) (hx : a.eval x = .slice A m c) (hm : m = ys.length) (hA : A = none → c = 0) (hr : Wd.Rd w B' k A ys)
    (hbytes : (xs.length + ys.length) * bytes ≤ 140737488355328) (h63 : xs.length + ys.length ≤ maxLen) (hB : B ≤ w.heap.size)
    (h : ∀ v' w', w'.ownsRow B e 1 v' (xs ++ ys).length ((xs ++ ys).map (Value.int k)) → w.grownBy w' v.ownBlock → K (a.put o.dst v') w') : if Region.wanted o (yielded ops a.tmps) = true then Oper.wp P o a w K Q else E := by
  rw [if_pos (by simp [Region.wanted, hgd])]
  obtain ⟨v', w', hrun, h2, h3⟩ := Wd.run_app_own (P := P) w B t o.type e i z k bytes ht hi hz hsize hby hzs v xs hown B' A m c ys hm hA hr hbytes h63 hB
  unfold Oper.wp
  simp [execOp, ho, resolve, invoke, builtin, hs, hx, hrun, Result.andThen]
  exact h v' w' h2 h3

/-- What stands behind the append, and behind the store into the box. -/
theorem put_end {w W w2 w3 : World} {A : Option Addr} {m c : Nat} {pre : List Run} {x : Run} {v v' : Value} {g : Nat} {cs : Array Value} {ds : List Int}
    (bV : Boxed W w.heap.size 33 v) (hrow : W.ownsRow w.heap.size 5 1 v (Rn.runB (vals pre)).length ((Rn.runB (vals pre)).map (Value.int .u8))) (bS : Boxed W (w.heap.size + 1) 22 (.slice A m c)) (hB : Below w.heap.size w W)
    (bX : Wd.Bx W g 44 cs) (hg : w.heap.size + 1 < g) (hW : Below W.heap.size W w2) (hds : ds = Nm.vd (Nm.zz x.1.1) ++ Nm.vd x.1.2)
    (hown : w3.ownsRow w.heap.size 5 1 v' (Rn.runB (vals pre) ++ ds).length ((Rn.runB (vals pre) ++ ds).map (Value.int .u8))) (hgr : w2.grownBy w3 v.ownBlock) :
    Boxed w3 w.heap.size 33 v ∧ Wd.Bx w3 g 44 cs ∧ Wd.Bx (w3.setCell ⟨w.heap.size, 0, none⟩ v') g 44 cs ∧
      KeepsFrom (w.heap.size + 1 + 1) W (w3.setCell ⟨w.heap.size, 0, none⟩ v') ∧ Keeps w.heap.size (w.heap.size + 1) W (w3.setCell ⟨w.heap.size, 0, none⟩ v') ∧ PutI w A m c (pre ++ [x]) (w3.setCell ⟨w.heap.size, 0, none⟩ v') := by
  have hsz := hB.size
  have hrow2 := Wd.own_below hrow hW
  have bV2 : Wd.Bx w2 w.heap.size _ _ := (show Wd.Bx W w.heap.size _ _ from bV).below bV.lt hW
  have bS2 : Wd.Bx w2 (w.heap.size + 1) _ _ := (show Wd.Bx W (w.heap.size + 1) _ _ from bS).below bS.lt hW
  have bX2 := bX.below bX.lt hW
  have bV3 : Boxed w3 w.heap.size 33 v := bV2.grown hgr (bV2.apart hrow2 (by decide))
  have bS3 : Boxed w3 (w.heap.size + 1) 22 (.slice A m c) := bS2.grown hgr (bS2.apart hrow2 (by decide))
  have bX3 := bX2.grown hgr (bX2.apart hrow2 (by decide))
  have oth : ∀ {k : Nat} {t : TypeId} {cs : Array Value}, w.heap.size ≠ k → Wd.Bx w3 k t cs → Wd.Bx (w3.setCell ⟨w.heap.size, 0, none⟩ v') k t cs := fun {k t cs} hk h => by
    unfold Wd.Bx
    rw [heap_setCell_other w3 _ k _ (fun e => hk e.symm)]
    exact h
  have hbl : Below w.heap.size W (w3.setCell ⟨w.heap.size, 0, none⟩ v') :=
    ((hW.mono hsz).grown hgr (Nat.le_trans hsz hW.size) (fun k hk => (hrow2.lt k hk).1)).setCell (Nat.le_refl _) _
  have bS4 : Boxed (w3.setCell ⟨w.heap.size, 0, none⟩ v') (w.heap.size + 1) 22 (.slice A m c) := oth (by omega) bS3
  refine ⟨bV3, bX3, oth (by omega) bX3, ?_, ⟨hbl, ?_⟩, ⟨⟨v', bV3.set v', ?_, trivial⟩, bS4, hB.trans hbl⟩⟩
  · have k1 : KeepsFrom (w.heap.size + 1 + 1) W w2 := keepsFrom_below hW
    have k2 : KeepsOthers w2 w3 := KeepsOthers.of_grownBy hgr fun j o ej hj => by
      rcases hrow2.2 with ⟨rfl, _⟩ | ⟨g', cap, cur, rfl, _, hgb, _⟩
      · simp [Value.ownBlock] at ej
      · obtain rfl : g' = j := by simpa [Value.ownBlock] using ej
        rw [hgb] at hj; cases hj; rfl
    exact (k1.trans (k2.from _)).trans ((KeepsOthers.setCell _ _ _).from _)
  · rw [show (w3.setCell ⟨w.heap.size, 0, none⟩ v').heap[w.heap.size + 1]? = _ from bS4]
    exact Eq.symm bS
  · rw [vals_snoc, show x.1 = (x.1.1, x.1.2) from rfl, Rn.runB_snoc, ← hds]
    exact hown.kept (grownBy_setCell' w3 w.heap.size v') (.inr (bV3.not_row (by decide) hown).symm)

set_option maxRecDepth 100000 in
set_option maxHeartbeats 2000000 in
theorem putRuns_in (n : Nat) (hn : 3 ≤ n) (A : Option Addr) (m c : Nat) (l : List Int) (w : World) (hS : Wd.Sl w .i64 A m c l) (hm : m ≤ 100000) (hF : Rn.Fits l) :
    CallsIn Fence.wide n Try.prog 41 #[.slice A m c] w (Wd.Out w .u8 (Rn.runB (Rn.runs l))) := by
  have h1 : 1 ≤ n := by omega
  obtain ⟨i0, hi, hz0, hz1, hz2⟩ := info_parts info_u8
  refine callsIn_of_wp_marks Try.func41 rfl trivial ?_ rfl
  simp only [Try.ntmps41, List.size_toArray, List.length_cons, List.length_nil, Nat.reduceAdd, Nat.reduceSub, Array.replicate_succ, Array.replicate_zero, List.push_toArray, List.append_toArray, List.nil_append, List.cons_append]
  gi_wp2_with (refine ⟨trivial, ?_⟩; gi_at_call 26; refine (eachRun_in (n - 1) _ _ _ _).mono ?_; rintro e w' ⟨rfl, rfl⟩)
  have bO := Boxed.new w 33 (.slice none 0 0)
  have bL := Boxed.new (w.alloc (.cells #[.slice none 0 0] 33)) 22 (.slice A m c)
  rw [World.size_alloc] at bL
  have hB0 : Below w.heap.size w ((w.alloc (.cells #[.slice none 0 0] 33)).alloc (.cells #[.slice A m c] 22)) := ((Below.refl _ w).alloc (Nat.le_refl _) _).alloc (by simp) _
  have hI0 : PutI w A m c [] ((w.alloc (.cells #[.slice none 0 0] 33)).alloc (.cells #[.slice A m c] 22)) := ⟨⟨_, bO.alloc _, World.ownsRow_nil _ _ _ _, trivial⟩, bL, hB0⟩
  refine wpIn_rangeFunc_ownH rfl h1 (gf := 38) (lb := #[.pointer (some ⟨w.heap.size + 1, 0, none⟩)]) rfl trivial (enters_of Try.func38 (by kernel_rfl) rfl)
    (each_stops (n - 1) (by omega) (w.heap.size + 1) w.heap.size A m c l hF (by omega) _ bL (by simp; omega) hS.len (hS.rd.below hB0)) Keeps.trans (keeps_b (by simp; omega) (by simp)) (Below.refl _ _) (fun _ => rfl)
    (PutI w A m c) (fun _ _ _ => False) (putI_own w A m c _ (by simp; omega)) (fun _ _ _ _ _ hs _ _ => hs) hI0 (PutAx w A m c) (fun x a' => putAx_own w A m c _ x a') ?assign ?body ?done ?stop
  case assign =>
    rintro l' pre x W K ⟨⟨v, h1, h2, _⟩, h3, h4⟩ hK
    gi_wp2
    exact hK _ _ ((KeepsOthers.alloc _ _).from _) ⟨(Below.refl _ W).alloc h4.size _, Below.heap_alloc W _ _ h3.lt⟩ ⟨⟨v, h1.alloc _, h2.alloc _, trivial⟩, h3.alloc _, h4.alloc h4.size _⟩ ⟨W.heap.size, Wd.Bx.new _ _ _, h3.lt, rfl⟩
  case body =>
    rintro l' pre x a' W hl' ⟨r, hr⟩ ⟨⟨v, bV, hrow, _⟩, bS, hB⟩ ⟨g, bX, hg, rfl⟩ hlt
    have cV := bV.cell
    have fV := bV.frozen
    have cX0 : W.cell? ⟨g, 0, none⟩ = some (.int .i64 x.1.1) := bX.cell 0
    have cX1 : W.cell? ⟨g, 1, none⟩ = some (.int .i64 x.1.2) := bX.cell 1
    have hsz := hB.size
    clear hI0 hB0 bO bL hr hl'
    gi_wp2
    refine wpIn_region_any (by kernel_rfl) ?_
    refine Rg.any_in (Rg.noDefer_spec (by kernel_rfl)) (fun ⟨a, w', h⟩ => h) _ _ _ _ ?_
    refine wpAny_of_held (S := fun w' => w'.cell? ⟨g, 0, none⟩ = some (.int .i64 x.1.1) ∧ w'.cell? ⟨g, 1, none⟩ = some (.int .i64 x.1.2)) _ _ _ _ ?_
    change wpAnyH _ _ _ _ _ 9 (Array.replicate 9 false) _ W.drew
    have hH : W.drew.cell? ⟨g, 0, none⟩ = some (.int .i64 x.1.1) ∧ W.drew.cell? ⟨g, 1, none⟩ = some (.int .i64 x.1.2) := ⟨cX0, cX1⟩
    refine wpAnyH_take (i := 1) (v := .pointer (some ⟨g, 0, none⟩)) rfl (by kernel_rfl) (by kernel_rfl) (by kernel_rfl) (fun _ _ _ h => h) (Or.inl ⟨by rfl, ?_⟩) hH ?_
    · rintro w' ⟨s0, s1⟩
      go_simp
    refine wpAnyH_take (i := 2) (v := .int .i64 x.1.1) rfl (by kernel_rfl) (by kernel_rfl) (by kernel_rfl) (fun _ _ _ h => h) (Or.inl ⟨by rfl, ?_⟩) hH ?_
    · rintro w' ⟨s0, s1⟩
      go_simp
    refine wpAnyH_take (i := 4) (v := .pointer (some ⟨g, 1, none⟩)) rfl (by kernel_rfl) (by kernel_rfl) (by kernel_rfl) (fun _ _ _ h => h) (Or.inl ⟨by rfl, ?_⟩) hH ?_
    · rintro w' ⟨s0, s1⟩
      go_simp
    refine wpAnyH_take (i := 5) (v := .int .i64 x.1.2) rfl (by kernel_rfl) (by kernel_rfl) (by kernel_rfl) (fun _ _ _ h => h) (Or.inl ⟨by rfl, ?_⟩) hH ?_
    · rintro w' ⟨s0, s1⟩
      go_simp
    have hx3 : -9223372036854775808 ≤ x.1.2 := by have := x.2.2; omega
    have hx4 : x.1.2 ≤ 9223372036854775807 := by have := x.2.2; omega
    have hx5 : ¬ x.1.2 < 0 := by have := x.2.2; omega
    have l1 := (Nm.vd_len (Nm.zz x.1.1)).2
    have l2 := (Nm.vd_len x.1.2).2
    have l3 := Rn.runB_len (vals pre)
    have l4 : (vals pre).length ≤ 100000 := by simp only [vals, List.length_map]; omega
    refine wpAnyH_ready (rs := [0, 3]) (by kernel_rfl) (by simp) ?_
    refine AllReadyH.cons rfl (fun K hK => ?_) (AllReadyH.cons rfl (fun K hK => ?_) AllReadyH.nil)
    · go_simp
      refine hK.out _ _ hH (fun _ => ?_)
      clear hK K
      refine wpAnyH_ready (rs := [3]) (by kernel_rfl) (by simp) ?_
      refine AllReadyH.cons rfl (fun K hK => ?_) AllReadyH.nil
      go_simp
      refine (put_any none 0 0 [] x.1.1 _ (Wd.Sl.none_ _ _) (by omega) x.2.1.1 x.2.1.2).mono ?_
      rintro e w1 ⟨A1, n1, c1, rfl, hS1, hB1⟩
      have hB1' : Below W.heap.size W w1 := Wd.of_drew hB1
      have hX1 := bX.below bX.lt hB1'
      have cV1 : w1.cell? ⟨w.heap.size, 0, none⟩ = some v := (hB1'.cell (p := ⟨w.heap.size, 0, none⟩) bV.lt).trans cV
      have hn1 : n1 ≤ 10 := by rw [hS1.len]; exact (Nm.vd_len (Nm.zz x.1.1)).2
      rw [List.nil_append] at hS1
      clear hB1
      refine hK.out _ _ ⟨hX1.cell 0, hX1.cell 1⟩ (fun _ => ?_)
      clear hK K
      refine wpAnyH_ready (rs := [6]) (by kernel_rfl) (by simp) ?_
      refine AllReadyH.cons rfl (fun K hK => ?_) AllReadyH.nil
      go_simp
      refine (putLen_any A1 n1 c1 _ x.1.2 w1 hS1 (by omega) hx3 hx4).mono ?_
      rintro e w2 ⟨A2, n2, c2, rfl, hS2, hB2⟩
      have hB2' : Below W.heap.size W w2 := hB1'.trans (hB2.mono hB1'.size)
      have hX2 := bX.below bX.lt hB2'
      have cV2 : w2.cell? ⟨w.heap.size, 0, none⟩ = some v := (hB2'.cell (p := ⟨w.heap.size, 0, none⟩) bV.lt).trans cV
      rw [if_neg hx5] at hS2
      clear hB2 hX1 cV1
      refine hK.out _ _ ⟨hX2.cell 0, hX2.cell 1⟩ (fun _ => ?_)
      clear hK K
      refine wpAnyH_ready (rs := [7]) (by kernel_rfl) (by simp) ?_
      refine AllReadyH.cons rfl (fun K hK => ?_) AllReadyH.nil
      refine step_app w2 rfl (.tmp 8) (.tmp 14) 33 rfl w.heap.size 5 i0 _ .u8 1 Try.underlying33 hi hz0 hz1 hz2 rfl v _ rfl (Wd.own_below hrow hB2') w2.heap.size A2 n2 c2 _ rfl hS2.len hS2.nil hS2.rd (by simp only [List.length_append]; omega) (by simp only [List.length_append]; unfold maxLen; omega) (Nat.le_trans hsz hB2'.size) ?_
      intro v' w3 hown3 hg3
      obtain ⟨bV3, bX3, bX4, f1, f2, f3⟩ := put_end (x := x) bV hrow bS hB bX hg hB2' rfl hown3 hg3
      have c3 := bV3.cell
      have c4 := bV3.frozen
      obtain ⟨A3, n3, k3, rfl, hS3⟩ := Wd.Sl.of_own hown3
      refine hK.out _ _ ⟨bX3.cell 0, bX3.cell 1⟩ (fun _ => ?_)
      clear hK K
      refine wpAnyH_ready (rs := [8]) (by kernel_rfl) (by simp) ?_
      refine AllReadyH.cons rfl (fun K hK => ?_) AllReadyH.nil
      go_simp
      refine hK.out _ _ ⟨bX4.cell 0, bX4.cell 1⟩ (fun _ => ?_)
      refine wpAnyH_done (by kernel_rfl) ?_ _
      exact ⟨by simpa using f1, f2, f3⟩
    · go_simp
      refine (put_any none 0 0 [] x.1.1 _ (Wd.Sl.none_ _ _) (by omega) x.2.1.1 x.2.1.2).mono ?_
      rintro e w1 ⟨A1, n1, c1, rfl, hS1, hB1⟩
      have hB1' : Below W.heap.size W w1 := Wd.of_drew hB1
      have hX1 := bX.below bX.lt hB1'
      have cV1 : w1.cell? ⟨w.heap.size, 0, none⟩ = some v := (hB1'.cell (p := ⟨w.heap.size, 0, none⟩) bV.lt).trans cV
      have hn1 : n1 ≤ 10 := by rw [hS1.len]; exact (Nm.vd_len (Nm.zz x.1.1)).2
      rw [List.nil_append] at hS1
      clear hB1
      refine hK.out _ _ ⟨hX1.cell 0, hX1.cell 1⟩ (fun _ => ?_)
      clear hK K
      refine wpAnyH_ready (rs := [0, 6]) (by kernel_rfl) (by simp) ?_
      refine AllReadyH.cons rfl (fun K hK => ?_) (AllReadyH.cons rfl (fun K hK => ?_) AllReadyH.nil)
      · go_simp
        refine hK.out _ _ ⟨hX1.cell 0, hX1.cell 1⟩ (fun _ => ?_)
        clear hK K
        refine wpAnyH_ready (rs := [6]) (by kernel_rfl) (by simp) ?_
        refine AllReadyH.cons rfl (fun K hK => ?_) AllReadyH.nil
        go_simp
        refine (putLen_any A1 n1 c1 _ x.1.2 w1 hS1 (by omega) hx3 hx4).mono ?_
        rintro e w2 ⟨A2, n2, c2, rfl, hS2, hB2⟩
        have hB2' : Below W.heap.size W w2 := hB1'.trans (hB2.mono hB1'.size)
        have hX2 := bX.below bX.lt hB2'
        have cV2 : w2.cell? ⟨w.heap.size, 0, none⟩ = some v := (hB2'.cell (p := ⟨w.heap.size, 0, none⟩) bV.lt).trans cV
        rw [if_neg hx5] at hS2
        clear hB2 hX1 cV1
        refine hK.out _ _ ⟨hX2.cell 0, hX2.cell 1⟩ (fun _ => ?_)
        clear hK K
        refine wpAnyH_ready (rs := [7]) (by kernel_rfl) (by simp) ?_
        refine AllReadyH.cons rfl (fun K hK => ?_) AllReadyH.nil
        refine step_app w2 rfl (.tmp 8) (.tmp 14) 33 rfl w.heap.size 5 i0 _ .u8 1 Try.underlying33 hi hz0 hz1 hz2 rfl v _ rfl (Wd.own_below hrow hB2') w2.heap.size A2 n2 c2 _ rfl hS2.len hS2.nil hS2.rd (by simp only [List.length_append]; omega) (by simp only [List.length_append]; unfold maxLen; omega) (Nat.le_trans hsz hB2'.size) ?_
        intro v' w3 hown3 hg3
        obtain ⟨bV3, bX3, bX4, f1, f2, f3⟩ := put_end (x := x) bV hrow bS hB bX hg hB2' rfl hown3 hg3
        have c3 := bV3.cell
        have c4 := bV3.frozen
        obtain ⟨A3, n3, k3, rfl, hS3⟩ := Wd.Sl.of_own hown3
        refine hK.out _ _ ⟨bX3.cell 0, bX3.cell 1⟩ (fun _ => ?_)
        clear hK K
        refine wpAnyH_ready (rs := [8]) (by kernel_rfl) (by simp) ?_
        refine AllReadyH.cons rfl (fun K hK => ?_) AllReadyH.nil
        go_simp
        refine hK.out _ _ ⟨bX4.cell 0, bX4.cell 1⟩ (fun _ => ?_)
        refine wpAnyH_done (by kernel_rfl) ?_ _
        exact ⟨by simpa using f1, f2, f3⟩
      · go_simp
        refine (putLen_any A1 n1 c1 _ x.1.2 w1 hS1 (by omega) hx3 hx4).mono ?_
        rintro e w2 ⟨A2, n2, c2, rfl, hS2, hB2⟩
        have hB2' : Below W.heap.size W w2 := hB1'.trans (hB2.mono hB1'.size)
        have hX2 := bX.below bX.lt hB2'
        have cV2 : w2.cell? ⟨w.heap.size, 0, none⟩ = some v := (hB2'.cell (p := ⟨w.heap.size, 0, none⟩) bV.lt).trans cV
        rw [if_neg hx5] at hS2
        clear hB2 hX1 cV1
        refine hK.out _ _ ⟨hX2.cell 0, hX2.cell 1⟩ (fun _ => ?_)
        clear hK K
        refine wpAnyH_ready (rs := [0]) (by kernel_rfl) (by simp) ?_
        refine AllReadyH.cons rfl (fun K hK => ?_) AllReadyH.nil
        go_simp
        refine hK.out _ _ ⟨hX2.cell 0, hX2.cell 1⟩ (fun _ => ?_)
        clear hK K
        refine wpAnyH_ready (rs := [7]) (by kernel_rfl) (by simp) ?_
        refine AllReadyH.cons rfl (fun K hK => ?_) AllReadyH.nil
        refine step_app w2 rfl (.tmp 8) (.tmp 14) 33 rfl w.heap.size 5 i0 _ .u8 1 Try.underlying33 hi hz0 hz1 hz2 rfl v _ rfl (Wd.own_below hrow hB2') w2.heap.size A2 n2 c2 _ rfl hS2.len hS2.nil hS2.rd (by simp only [List.length_append]; omega) (by simp only [List.length_append]; unfold maxLen; omega) (Nat.le_trans hsz hB2'.size) ?_
        intro v' w3 hown3 hg3
        obtain ⟨bV3, bX3, bX4, f1, f2, f3⟩ := put_end (x := x) bV hrow bS hB bX hg hB2' rfl hown3 hg3
        have c3 := bV3.cell
        have c4 := bV3.frozen
        obtain ⟨A3, n3, k3, rfl, hS3⟩ := Wd.Sl.of_own hown3
        refine hK.out _ _ ⟨bX3.cell 0, bX3.cell 1⟩ (fun _ => ?_)
        clear hK K
        refine wpAnyH_ready (rs := [8]) (by kernel_rfl) (by simp) ?_
        refine AllReadyH.cons rfl (fun K hK => ?_) AllReadyH.nil
        go_simp
        refine hK.out _ _ ⟨bX4.cell 0, bX4.cell 1⟩ (fun _ => ?_)
        refine wpAnyH_done (by kernel_rfl) ?_ _
        exact ⟨by simpa using f1, f2, f3⟩
  case done =>
    rintro D ys W hD hys ⟨⟨v, bV, hrow, _⟩, bS, hB⟩ hK
    have cV := bV.cell
    gi_wp2
    refine ⟨by simp, .inl ⟨_, _, rfl, run_takeDeferred hK, ?_⟩⟩
    have hrow' := ownsRow_putObj hrow (.deferred none) hK rfl
    rw [hys] at hrow'
    obtain ⟨A', n', c', rfl, hSr⟩ := Wd.Sl.of_own hrow'
    exact ⟨_, results_tmp rfl _ _ _, ⟨_, _, _, rfl, hSr, hB.trans (belowK_b (w := w) (Nat.le_refl _) W D _ _ (by simp at hD; omega) hK rfl rfl)⟩⟩
  case stop =>
    rintro D c pre W _ _ h _
    exact h.elim
theorem putRuns_any (A : Option Addr) (m c : Nat) (l : List Int) (w : World) (hS : Wd.Sl w .i64 A m c l) (hm : m ≤ 100000) (hF : Rn.Fits l) :
    Calls Try.prog 41 #[.slice A m c] w (Wd.Out w .u8 (Rn.runB (Rn.runs l))) := (callsIn_wide (n := 3)).1 (putRuns_in 3 (by omega) A m c l w hS hm hF)
end Rc
end Go.Proofs.Ytejhnmahmnbmkaa
