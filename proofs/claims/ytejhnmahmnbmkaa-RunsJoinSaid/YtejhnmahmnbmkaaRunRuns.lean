/- What runs.Runs does: it collects the runs that eachRun hands on. -/
import Derived.Maps.AppendAt
import Derived.Test.YtejhnmahmnbmkaaRunEach
namespace Go.Proofs.Ytejhnmahmnbmkaa
open Go.RowKit Go.Shelf
attribute [local go_sem] Oper.semAt_some
namespace Rc

theorem eachRun_in (n : Nat) (A : Option Addr) (m c : Nat) (w : World) :
    CallsIn Fence.wide n Try.prog 26 #[.slice A m c] w fun e w' => e = .returned (.func (.func 38) #[] #[.pointer (some ⟨w.heap.size, 0, none⟩)]) ∧ w' = w.alloc (.cells #[.slice A m c] 22) := by
  refine callsIn_of_wp Try.func26 rfl trivial ?_ rfl
  simp only [Try.ntmps26, List.size_toArray, List.length_cons, List.length_nil, Nat.reduceAdd, Nat.reduceSub, Array.replicate_succ, Array.replicate_zero, List.push_toArray, List.append_toArray, List.nil_append, List.cons_append]
  gi_wp2
  go_ret
  exact ⟨rfl, rfl⟩

theorem each_stops (n : Nat) (hn : 1 ≤ n) (Bl n₀ : Nat) (A : Option Addr) (m c : Nat) (zs : List Int) (hF : Rn.Fits zs) (hm : m ≤ 1000000) (w : World) (hBl : Wd.Bx w Bl 22 #[.slice A m c]) (hn₀ : n₀ ≤ w.heap.size) (hl : m = zs.length) (hrd : Wd.Rd w n₀ .i64 A zs) :
    SeqStopsK Fence.wide n Try.prog 38 #[.pointer (some ⟨Bl, 0, none⟩)] (fun x : Run => #[Value.agg #[.int .i64 x.1.1, .int .i64 x.1.2]]) (Keeps n₀ Bl) (fun ys => vals ys = Rn.runs zs) (fun _ => True) m w :=
  fun l J Jx W hW hJ _ hY h0 => each1_in n hn l Bl n₀ A m c zs hF hm J Jx W hJ hY (hBl.below hBl.lt hW) hl (hrd.below (hW.mono hn₀)) h0

theorem keeps_b {n₀ Bl : Nat} {w : World} (hn : n₀ ≤ w.heap.size) (hb : Bl < w.heap.size) (W : World) (l : Nat) (o o' : Obj) (hl : w.heap.size ≤ l) (h : W.heap[l]? = some o) (h1 : o.isCells = false) (h2 : o.isWalk = false) : Keeps n₀ Bl W (W.putObj l o') :=
  ⟨belowK_b hn W l o o' hl h h1 h2, World.putObj_heap_other (by omega)⟩
theorem info_run : (Try.prog.info? 44).map (fun i => (i.zero, i.size, i.bytes)) = some (some (.agg #[.int .i64 0, .int .i64 0]), 2, 16) := by kernel_rfl

/-- A round of Runs: the box of the run, the box of what was collected. -/
def RunsI (w : World) (A : Option Addr) (m c : Nat) (pre : List Run) (W : World) : Prop :=
  (∃ v, Boxed W w.heap.size 23 v ∧ W.ownsRow w.heap.size 44 2 v pre.length ((Wd.cellsR (vals pre)).map (Value.int .i64)) ∧ True) ∧ Boxed W (w.heap.size + 1) 22 (.slice A m c) ∧ Below w.heap.size w W

theorem two_new (w : World) (a b : Value) (e : TypeId) : ∀ j u, [a, b][j]? = some u → (w.alloc (.cells #[a, b] e)).cell? ((⟨w.heap.size, 0, none⟩ : Addr).add j) = some u := by
  intro j u h
  rw [Addr.add_lit, Nat.zero_add, cell_of_row _ _ _ _ _ _ (heap_alloc_new w _), ← h]
  simp
theorem bx_own {β : Type} (g : Nat) (t : TypeId) (cs : Array Value) : Own (fun (_ : β) W => Wd.Bx W g t cs) := fun _ X Y row hv hg hrow => hv.grown hg (fun e => by
  obtain ⟨o, ho, hc⟩ := hrow g e.symm
  rw [show X.heap[g]? = _ from hv] at ho
  cases ho
  cases hc)
theorem keepsFrom_below {B : Nat} {W W' : World} (h : Below W.heap.size W W') : KeepsFrom B W W' := ⟨h.size, fun k _ _ hk _ => (h.block k (Array.getElem?_eq_some_iff.1 hk).1).trans hk⟩
/-- The loop's variable lies in a box of its own. -/
def RunsAx (w : World) (A : Option Addr) (m c : Nat) (x : Run) (a' : Act) (W : World) : Prop :=
  ∃ g, Wd.Bx W g 44 #[.int .i64 x.1.1, .int .i64 x.1.2] ∧ w.heap.size + 1 < g ∧
    a' = { tmps := #[.slice A m c, undef, .slice none 0 0, .pointer (some ⟨w.heap.size, 0, none⟩), .pointer (some ⟨g, 0, none⟩), .slice A m c, .func (.func 38) #[] #[.pointer (some ⟨w.heap.size + 1, 0, none⟩)], .agg #[.int .i64 x.1.1, .int .i64 x.1.2], undef, undef, undef, undef, undef], defers := [] }
theorem runsAx_own (w : World) (A : Option Addr) (m c : Nat) (B : Nat) (x : Run) (a' : Act) : OwnFrom B (fun (_ : Unit) W => RunsAx w A m c x a' W) := fun _ X Y row ⟨g, h1, h2, h3⟩ hg hrow =>
  ⟨g, bx_own (β := Unit) g _ _ () X Y row h1 hg (fun r e => (hrow r e).2), h2, h3⟩
theorem runsI_own (w : World) (A : Option Addr) (m c : Nat) (B : Nat) (hB : w.heap.size ≤ B) : OwnFrom B (RunsI w A m c) :=
  OwnFrom.and (Own.from (holdsRow_own w.heap.size w.heap.size _ _ 2 (fun pre : List Run => pre.length) (fun pre => (Wd.cellsR (vals pre)).map (Value.int .i64)) (fun _ _ => True)) _) (OwnFrom.and (Own.from (bx_own _ _ _) _) (ownFrom_below (Nat.le_refl _) hB))

set_option maxRecDepth 100000 in
set_option maxHeartbeats 2000000 in
theorem runs_in (n : Nat) (hn : 3 ≤ n) (A : Option Addr) (m c : Nat) (l : List Int) (w : World) (hS : Wd.Sl w .i64 A m c l) (hm : m ≤ 1000000) (hF : Rn.Fits l) :
    CallsIn Fence.wide n Try.prog 11 #[.slice A m c] w (Wd.OutR w (Rn.runs l)) := by
  have h1 : 1 ≤ n := by omega
  obtain ⟨i0, hi, hz0, hz1, hz2⟩ := info_parts info_run
  refine callsIn_of_wp_marks Try.func11 rfl trivial ?_ rfl
  simp only [Try.ntmps11, List.size_toArray, List.length_cons, List.length_nil, Nat.reduceAdd, Nat.reduceSub, Array.replicate_succ, Array.replicate_zero, List.push_toArray, List.append_toArray, List.nil_append, List.cons_append]
  gi_wp2_with (refine ⟨trivial, ?_⟩; gi_at_call 26; refine (eachRun_in (n - 1) _ _ _ _).mono ?_; rintro e w' ⟨rfl, rfl⟩)
  have bO := Boxed.new w 23 (.slice none 0 0)
  have bL := Boxed.new (w.alloc (.cells #[.slice none 0 0] 23)) 22 (.slice A m c)
  rw [World.size_alloc] at bL
  have hB0 : Below w.heap.size w ((w.alloc (.cells #[.slice none 0 0] 23)).alloc (.cells #[.slice A m c] 22)) := ((Below.refl _ w).alloc (Nat.le_refl _) _).alloc (by simp) _
  have hI0 : RunsI w A m c [] ((w.alloc (.cells #[.slice none 0 0] 23)).alloc (.cells #[.slice A m c] 22)) := ⟨⟨_, bO.alloc _, World.ownsRow_nil _ _ _ _, trivial⟩, bL, hB0⟩
  refine wpIn_rangeFunc_ownH rfl h1 (gf := 38) (lb := #[.pointer (some ⟨w.heap.size + 1, 0, none⟩)]) rfl trivial (enters_of Try.func38 (by kernel_rfl) rfl)
    (each_stops (n - 1) (by omega) (w.heap.size + 1) w.heap.size A m c l hF hm _ bL (by simp; omega) hS.len (hS.rd.below hB0)) Keeps.trans (keeps_b (by simp; omega) (by simp)) (Below.refl _ _) (fun _ => rfl)
    (RunsI w A m c) (fun _ _ _ => False) (runsI_own w A m c _ (by simp; omega)) (fun _ _ _ _ _ hs _ _ => hs) hI0 (RunsAx w A m c) (fun x a' => runsAx_own w A m c _ x a') ?assign ?body ?done ?stop
  case assign =>
    rintro l' pre x W K ⟨⟨v, h1, h2, _⟩, h3, h4⟩ hK
    gi_wp2
    exact hK _ _ ((KeepsOthers.alloc _ _).from _) ⟨(Below.refl _ W).alloc h4.size _, Below.heap_alloc W _ _ h3.lt⟩ ⟨⟨v, h1.alloc _, h2.alloc _, trivial⟩, h3.alloc _, h4.alloc h4.size _⟩ ⟨W.heap.size, Wd.Bx.new _ _ _, h3.lt, rfl⟩
  case body =>
    rintro l' pre x a' W hl' ⟨r, hr⟩ ⟨⟨v, bV, hrow, _⟩, bS, hB⟩ ⟨g, bX, hg, rfl⟩ hlt
    have cV := bV.cell
    have fV := bV.frozen
    have cX0 : W.cell? ⟨g, 0, none⟩ = some (.int .i64 x.1.1) := bX.cell 0
    have cX1 : W.cell? ⟨g, 1, none⟩ = some (.int .i64 x.1.2) := bX.cell 1
    have hsz := hB.size
    clear hI0 hB0 bO bL hr hl'
    gi_wp2_with (gi_at_builtin; refine wpListIn_append_own _ rfl (.tmp 8) (.tmp 10) 23 rfl w.heap.size 44 i0 _ 2 16 Try.underlying23 hi hz0 hz1 hz2 rfl (by decide) _ _ _ rfl (hrow.alloc _) ⟨W.heap.size, 0, none⟩ 1 1 [.int .i64 x.1.1, .int .i64 x.1.2] rfl rfl (two_new _ _ _ _) (by simp [Value.oneCell']) (by unfold maxLen; omega) (by omega) (by simp; omega) ?_; intro v' w1 hown' hgrow _; obtain ⟨g', cap', rfl⟩ := ownsRow_succ hown'; obtain ⟨hv1, hv2, hr2, hk2, hb2⟩ := bV.appended (by decide) hrow hB.size (Nat.le_refl _) hown' hgrow; have hc1 := hv1.cell; have hf1 := hv1.frozen)
    have hlk : (w1.setCell ⟨w.heap.size, 0, none⟩ (.slice (some ⟨g', 0, none⟩) (pre.length + 1) cap')).heap[w.heap.size + 1]? = W.heap[w.heap.size + 1]? := by
      rw [heap_setCell_other w1 _ _ _ (by simp)]
      rw [hgrow.block _ (by have := bS.lt; simp; omega) ((show Wd.Bx W (w.heap.size + 1) _ _ from bS).apart hrow (by decide))]
      exact Below.heap_alloc W _ _ bS.lt
    exact ⟨hk2.from _, ⟨hb2, hlk⟩, ⟨⟨_, hv2, by rw [vals_snoc, Wd.cellsR_app]; simpa [Wd.cellsR] using hr2, trivial⟩, hlk.trans bS, hB.trans hb2⟩⟩
  case done =>
    rintro D ys W hD hys ⟨⟨v, bV, hrow, _⟩, bS, hB⟩ hK
    have cV := bV.cell
    gi_wp2
    refine ⟨by simp, .inl ⟨_, _, rfl, run_takeDeferred hK, ?_⟩⟩
    have hrow' := ownsRow_putObj hrow (.deferred none) hK rfl
    rw [hys] at hrow'
    obtain ⟨A', c', rfl, hSr⟩ := Wd.ownR_form hrow'
    exact ⟨_, results_tmp rfl _ _ _, ⟨_, _, _, rfl, hSr, hB.trans (belowK_b (w := w) (Nat.le_refl _) W D _ _ (by simp at hD; omega) hK rfl rfl)⟩⟩
  case stop =>
    rintro D c pre W _ _ h _
    exact h.elim
theorem runs_any (A : Option Addr) (m c : Nat) (l : List Int) (w : World) (hS : Wd.Sl w .i64 A m c l) (hm : m ≤ 1000000) (hF : Rn.Fits l) :
    Calls Try.prog 11 #[.slice A m c] w (Wd.OutR w (Rn.runs l)) := (callsIn_wide (n := 3)).1 (runs_in 3 (by omega) A m c l w hS hm hF)
end Rc
end Go.Proofs.Ytejhnmahmnbmkaa
