/- What List of the statements of layer 9 does with whatever All hands on: a range over a function, its body appends and may break. -/
import Derived.RangeFuncNested
import Derived.RangeFuncBound
import Derived.RangeFuncCalls
import Derived.RangeFuncLeaves
import Derived.Shelf.Abstract
import Derived.Shelf.RegionOpen
import Derived.WalkKit
import Derived.OwnWalkIn
import Derived.TacticsInMore
import Derived.LoopNIn
import Derived.LoopIn
import Derived.Sort.QuietIn
import Derived.Lib.Hide
import Derived.Maps.AppendAt
import Derived.Test.YtgmjafammdkgfaaDoorBsIfc
namespace Go.Proofs.YtgmjafammdkgfaaDoor
set_option maxRecDepth 20000
open Go.RowKit Go.Shelf
attribute [local go_sem] Oper.semAt_some
namespace Bi
open Bs Bx
/-- What a round that goes on keeps: what lay below n, and block b. -/
def Keeps (n b : Nat) (W W' : World) : Prop := Below n W W' ∧ W'.heap[b]? = W.heap[b]?
theorem Keeps.refl (n b : Nat) (W : World) : Keeps n b W W := ⟨Below.refl _ _, rfl⟩
theorem Keeps.trans {n b : Nat} {A B C : World} (h : Keeps n b A B) (k : Keeps n b B C) : Keeps n b A C := ⟨h.1.trans k.1, k.2.trans h.2⟩
theorem keeps_b {n₀ b : Nat} {w : World} (hn : n₀ ≤ w.heap.size) (hb : b < w.heap.size) (W : World) (l : Nat) (o o' : Obj) (hl : w.heap.size ≤ l) (h : W.heap[l]? = some o) (h1 : o.isCells = false) (h2 : o.isWalk = false) : Keeps n₀ b W (W.putObj l o') :=
  ⟨belowK_b hn W l o o' hl h h1 h2, World.putObj_heap_other (by omega)⟩
/-- What All answers in wl, where the set lies below n₀: a function that hands on the numbers of X in order, while what lies below n₀ and one block of its own are kept. -/
def Hands (n₀ : Nat) (wl : World) (X : List Int) (e : Ending) (w' : World) : Prop :=
  ∃ f cap b N, e = .returned (.func (.func f) #[] cap) ∧ (∀ args w, (callFunc f args).run Tryd.prog w = .ok (.enter f args) w) ∧ Below wl.heap.size wl w' ∧ wl.heap.size ≤ b ∧ b < w'.heap.size ∧ N ≤ 100000 ∧
    ∀ n, 2 ≤ n → SeqStopsK Fence.wide n Tryd.prog f cap (fun x : Int => #[.int .i64 x]) (Keeps n₀ b) (fun ys => ys = X) (fun pre => pre <+: X) N w'
/-- A round of List: the boxes of what was collected and of how many are asked; what was collected lies behind base. -/
def ListI (w : World) (base : Nat) (k : Int) (pre : List Int) (W : World) : Prop :=
  (∃ v, Boxed W (w.heap.size + 1 + 1) 22 v ∧ W.ownsRow base 3 1 v pre.length (pre.map (Value.int .i64)) ∧ True) ∧ Boxed W (w.heap.size + 1) 3 (.int .i64 k) ∧ (k < 0 ∨ (pre.length : Int) < k) ∧ base ≤ W.heap.size ∧ Below w.heap.size w W
theorem bx_own {β : Type} (g : Nat) (t : TypeId) (cs : Array Value) : Own (fun (_ : β) W => Wd.Bx W g t cs) := fun _ X Y row hv hg hrow => hv.grown hg (fun e => by
  obtain ⟨o, ho, hc⟩ := hrow g e.symm
  rw [show X.heap[g]? = _ from hv] at ho
  cases ho
  cases hc)
theorem listI_own (w : World) (base : Nat) (k : Int) (B : Nat) (hB : w.heap.size ≤ B) : OwnFrom B (ListI w base k) :=
  OwnFrom.and (Own.from (holdsRow_own base (w.heap.size + 1 + 1) _ _ 1 (fun pre : List Int => pre.length) (fun pre => pre.map (Value.int .i64)) (fun _ _ => True)) _) (OwnFrom.and (Own.from (bx_own _ _ _) _) (OwnFrom.and (fun _ _ _ _ hs _ _ => hs) (OwnFrom.and (fun _ _ _ _ hs hg _ => Nat.le_trans hs hg.size) (ownFrom_below (Nat.le_refl _) hB))))
/-- .. and a round that has left. -/
def ListX (w : World) (base : Nat) (k : Int) (c : Code) (pre : List Int) (W : World) : Prop :=
  (∃ v, Boxed W (w.heap.size + 1 + 1) 22 v ∧ W.ownsRow base 3 1 v pre.length (pre.map (Value.int .i64)) ∧ True) ∧ (c = .exit 0 ∧ (pre.length : Int) = k) ∧ Below w.heap.size w W
theorem listX_own (w : World) (base : Nat) (k : Int) (c : Code) (B : Nat) (hB : w.heap.size ≤ B) : OwnFrom B (ListX w base k c) :=
  OwnFrom.and (Own.from (holdsRow_own base (w.heap.size + 1 + 1) _ _ 1 (fun pre : List Int => pre.length) (fun pre => pre.map (Value.int .i64)) (fun _ _ => True)) _) (OwnFrom.and (fun _ _ _ _ hs _ _ => hs) (ownFrom_below (Nat.le_refl _) hB))
theorem own_down {w : World} {B B' : Nat} {e : TypeId} {size n : Nat} {v : Value} {xs : List Value} (h : w.ownsRow B e size v n xs) (hB : B' ≤ B) : w.ownsRow B' e size v n xs :=
  ⟨h.1, h.2.imp id fun ⟨g, cap, cur, h1, h2, h3⟩ => ⟨g, cap, cur, h1, Nat.le_trans hB h2, h3⟩⟩
/-- Another block, behind an append and a store. -/
theorem same_set {W w2 : World} {o : Obj} {row : Option Nat} {g b : Nat} {v : Value} (hg : (W.alloc o).grownBy w2 row) (hne : some g ≠ row) (hb : b ≠ g) (hlt : g < W.heap.size) : (w2.setCell ⟨b, 0, none⟩ v).heap[g]? = W.heap[g]? := by
  rw [heap_setCell_other w2 _ _ _ (by simpa using fun e => hb e.symm)]
  rw [hg.block g (by simp; omega) hne]
  exact Below.heap_alloc W _ _ hlt
theorem kept_set {W w2 : World} {o : Obj} {row : Option Nat} {g b : Nat} {v u : Value} {t : TypeId} (h : Boxed W g t u) (hg : (W.alloc o).grownBy w2 row) (hne : some g ≠ row) (hb : b ≠ g) : Boxed (w2.setCell ⟨b, 0, none⟩ v) g t u :=
  (same_set hg hne hb h.lt).trans h
set_option maxRecDepth 100000 in
set_option maxHeartbeats 4000000 in
theorem list_in (n : Nat) (hn : 4 ≤ n) (A : Option Addr) (sn sc : Nat) (X : List Int) (k : Int) (w : World) (hk : k ≠ 0)
    (Hall : ∀ wl, Below w.heap.size w wl → CallsIn Fence.wide (n - 1) Tryd.prog 30 #[.agg #[.slice A sn sc]] wl (Hands w.heap.size wl X)) :
    CallsIn Fence.wide n Tryd.prog 12 #[.agg #[.slice A sn sc], .int .i64 k] w (Wd.Out w .i64 (hd k X)) := by
  have h1 : 1 ≤ n := by omega
  have hk0 : (k == 0) = false := by simpa using hk
  obtain ⟨i0, hi, hz0, hz1, hz2⟩ := info_parts info_i
  refine callsIn_of_wp_marks Tryd.func12 rfl trivial ?_ rfl
  simp only [Tryd.ntmps12, List.size_toArray, List.length_cons, List.length_nil, Nat.reduceAdd, Nat.reduceSub, Array.replicate_succ, Array.replicate_zero, List.push_toArray, List.append_toArray, List.nil_append, List.cons_append]
  have b0 := Boxed.new w 27 (.slice A sn sc)
  have b1 := Boxed.new (w.alloc (.cells #[.slice A sn sc] 27)) 3 (.int .i64 k)
  have b2 := Boxed.new ((w.alloc (.cells #[.slice A sn sc] 27)).alloc (.cells #[.int .i64 k] 3)) 22 (.slice none 0 0)
  rw [World.size_alloc] at b1
  rw [World.size_alloc, World.size_alloc] at b2
  have hb0 : Below w.heap.size w (((w.alloc (.cells #[.slice A sn sc] 27)).alloc (.cells #[.int .i64 k] 3)).alloc (.cells #[.slice none 0 0] 22)) := (((Below.refl _ w).alloc (Nat.le_refl _) _).alloc (by simp) _).alloc (by simp; omega) _
  have Ca := Lib.hid (Hall _ hb0)
  have b1' := b1.alloc (.cells #[.slice none 0 0] 22)
  have hz : (((w.alloc (.cells #[.slice A sn sc] 27)).alloc (.cells #[.int .i64 k] 3)).alloc (.cells #[.slice none 0 0] 22)).heap.size = w.heap.size + 1 + 1 + 1 := by simp
  have hnil : ∀ (f : Nat) (cap : Array Value) (w : World), (binOp .eql 47 (.func (.func f) #[] cap) .nilFunc).run Tryd.prog w = .ok (.bool false) w := fun _ _ _ => by kernel_rfl
  clear b0 b1 Hall
  gi_wp2_with (refine ⟨trivial, ?_⟩; gi_at_call 30; refine Ca.out.mono ?_; rintro e w1 ⟨f, cap, b, N, rfl, eg, hb1, hlb, hbl, hN, hseq⟩)
  have hw1 : w.heap.size + 1 + 1 + 1 ≤ w1.heap.size := by rw [← hz]; exact hb1.size
  have hbw : Below w.heap.size w w1 := hb0.trans (hb1.mono (by rw [hz]; omega))
  have bK : Boxed w1 (w.heap.size + 1) 3 (.int .i64 k) := Wd.Bx.below b1' b1'.lt hb1
  have bO : Boxed w1 (w.heap.size + 1 + 1) 22 (.slice none 0 0) := Wd.Bx.below b2 b2.lt hb1
  have hbn : w.heap.size + 1 + 1 + 1 ≤ b := by rw [← hz]; exact hlb
  clear Ca b1' b2 hb0 hb1 hz hlb hnil
  have hk2 : k < 0 ∨ (([] : List Int).length : Int) < k := by simp only [List.length_nil]; omega
  have hI0 : ListI w w1.heap.size k [] w1 := ⟨⟨_, bO, World.ownsRow_nil _ _ _ _, trivial⟩, bK, hk2, Nat.le_refl _, hbw⟩
  refine wpIn_rangeFunc_ownH rfl h1 (gf := f) (lb := cap) rfl trivial eg
    (hseq (n - 1) (by omega)) Keeps.trans (keeps_b (by omega) hbl) (Below.refl _ _) (fun _ => rfl)
    (ListI w w1.heap.size k) (ListX w w1.heap.size k) (listI_own w _ k _ (by omega)) (fun c => listX_own w _ k c _ (by omega)) hI0
    (fun x a' _ => a' = { tmps := #[.agg #[.slice A sn sc], .int .i64 k, .pointer (some ⟨w.heap.size, 0, none⟩), .pointer (some ⟨w.heap.size + 1, 0, none⟩), .slice none 0 0, .pointer (some ⟨w.heap.size + 1 + 1, 0, none⟩), .func (.func f) #[] cap, .int .i64 x, .int .i64 k, .bool false, undef, .agg #[.slice A sn sc], .func (.func f) #[] cap, .func (.func f) #[] cap, .bool false, undef, .func (.func f) #[] cap, .int .i64 x, undef, undef, undef, undef, undef, undef, undef, undef, undef], defers := [] }) (fun _ _ _ _ _ _ h _ _ => h) ?assign ?body ?done ?stop
  case assign =>
    rintro l' pre x W K hI hK
    gi_wp2
    exact hK _ _ (KeepsFrom.refl _ _) (Keeps.refl _ _ _) hI rfl
  case body =>
    rintro l' pre x a' W hl' ⟨r, hr⟩ ⟨⟨v, bV, hrow, _⟩, bK', hlk, hWsz, hB⟩ rfl hlt
    have cV := bV.cell
    have fV := bV.frozen
    have hsz := hB.size
    clear hI0 hr hl' bK bO
    have hle : w.heap.size ≤ w1.heap.size := by omega
    have hneK : some (w.heap.size + 1) ≠ v.ownBlock := fun e => by have := (hrow.lt _ e.symm).1; omega
    have hneB : some b ≠ v.ownBlock := fun e => by have := (hrow.lt _ e.symm).1; omega
    by_cases hq : (pre.length : Int) + 1 = k
    · have hqb : ((pre.length : Int) + 1 == k) = true := by simpa using hq
      have Hq := Lib.hid hq
      clear hq
      gi_wp2_with (gi_at_builtin; refine wpListIn_append_own _ rfl (.tmp 18) (.tmp 20) 22 rfl w1.heap.size 3 i0 _ 1 8 Tryd.underlying22 hi hz0 hz1 hz2 rfl (by decide) _ _ _ rfl (hrow.alloc _) ⟨W.heap.size, 0, none⟩ 1 1 [.int .i64 x] rfl rfl (cell_one_new _ _ _) (by simp [Value.oneCell']) (by unfold maxLen; omega) (by omega) (by simp; omega) ?_; intro v' w2 hown' hgrow _; obtain ⟨g', cap', rfl⟩ := ownsRow_succ hown'; obtain ⟨hv1, hv2, hr2, hk2', hb2⟩ := bV.appended (by decide) (own_down hrow hle) hB.size (by omega) (own_down hown' hle) hgrow; have hc1 := hv1.cell; have hf1 := hv1.frozen; have bK2 := kept_set (b := w.heap.size + 1 + 1) (v := .slice (some ⟨g', 0, none⟩) (pre.length + 1) cap') bK' hgrow hneK (by omega); have cK2 := bK2.cell; have hr3 := hown'.kept (grownBy_setCell' w2 (w.heap.size + 1 + 1) (.slice (some ⟨g', 0, none⟩) (pre.length + 1) cap')) (.inr (hv1.not_row (by decide) hown').symm); have hkb := same_set (b := w.heap.size + 1 + 1) (v := .slice (some ⟨g', 0, none⟩) (pre.length + 1) cap') hgrow hneB (show w.heap.size + 1 + 1 ≠ b by omega) (show b < W.heap.size by omega); have hz2' : w1.heap.size ≤ (w2.setCell ⟨w.heap.size + 1 + 1, 0, none⟩ (.slice (some ⟨g', 0, none⟩) (pre.length + 1) cap')).heap.size := Nat.le_trans hWsz hb2.size)
      exact ⟨hk2'.from _, ⟨⟨_, hv2, by rw [List.length_append, List.map_append]; exact hr3, trivial⟩, ⟨rfl, by rw [List.length_append]; exact_mod_cast Hq.out⟩, hB.trans hb2⟩⟩
    · have hqb : ((pre.length : Int) + 1 == k) = false := by simpa using hq
      have Hq := Lib.hid (show k < 0 ∨ ((pre.length : Int) + 1) < k by omega)
      clear hq
      gi_wp2_with (gi_at_builtin; refine wpListIn_append_own _ rfl (.tmp 18) (.tmp 20) 22 rfl w1.heap.size 3 i0 _ 1 8 Tryd.underlying22 hi hz0 hz1 hz2 rfl (by decide) _ _ _ rfl (hrow.alloc _) ⟨W.heap.size, 0, none⟩ 1 1 [.int .i64 x] rfl rfl (cell_one_new _ _ _) (by simp [Value.oneCell']) (by unfold maxLen; omega) (by omega) (by simp; omega) ?_; intro v' w2 hown' hgrow _; obtain ⟨g', cap', rfl⟩ := ownsRow_succ hown'; obtain ⟨hv1, hv2, hr2, hk2', hb2⟩ := bV.appended (by decide) (own_down hrow hle) hB.size (by omega) (own_down hown' hle) hgrow; have hc1 := hv1.cell; have hf1 := hv1.frozen; have bK2 := kept_set (b := w.heap.size + 1 + 1) (v := .slice (some ⟨g', 0, none⟩) (pre.length + 1) cap') bK' hgrow hneK (by omega); have cK2 := bK2.cell; have hr3 := hown'.kept (grownBy_setCell' w2 (w.heap.size + 1 + 1) (.slice (some ⟨g', 0, none⟩) (pre.length + 1) cap')) (.inr (hv1.not_row (by decide) hown').symm); have hkb := same_set (b := w.heap.size + 1 + 1) (v := .slice (some ⟨g', 0, none⟩) (pre.length + 1) cap') hgrow hneB (show w.heap.size + 1 + 1 ≠ b by omega) (show b < W.heap.size by omega); have hz2' : w1.heap.size ≤ (w2.setCell ⟨w.heap.size + 1 + 1, 0, none⟩ (.slice (some ⟨g', 0, none⟩) (pre.length + 1) cap')).heap.size := Nat.le_trans hWsz hb2.size)
      exact ⟨hk2'.from _, ⟨hb2, hkb⟩, ⟨⟨_, hv2, by rw [List.length_append, List.map_append]; exact hr3, trivial⟩, bK2, by rw [List.length_append]; exact_mod_cast Hq.out, hz2', hB.trans hb2⟩⟩
  case done =>
    rintro D ys W hD rfl ⟨⟨v, bV, hrow, _⟩, bK', hlk, hWsz, hB⟩ hK
    have cV := bV.cell
    have he : hd k ys = ys := by
      unfold hd
      rcases hlk with h | h
      · rw [if_pos h]
      · rw [if_neg (by omega)]
        exact List.take_of_length_le (by omega)
    have He := Lib.hid he
    have hrow' := ownsRow_putObj hrow (.deferred none) hK rfl
    obtain ⟨A', m', c', rfl, hSl⟩ := Wd.Sl.of_own hrow'
    clear he hlk bK' hI0 hseq eg
    gi_wp2
    refine ⟨by simp, .inl ⟨_, _, rfl, run_takeDeferred hK, ?_⟩⟩
    exact ⟨_, results_tmp rfl _ _ _, ⟨_, _, _, rfl, by rw [He.out]; exact hSl, hB.trans (belowK_b (w := w) (Nat.le_refl _) W D _ _ (by omega) hK rfl rfl)⟩⟩
  case stop =>
    rintro D c pre W hD hpre ⟨⟨v, bV, hrow, _⟩, ⟨rfl, hlk⟩, hB⟩ hK
    have cV := bV.cell
    have he : hd k X = pre := by
      unfold hd
      rw [if_neg (by omega), show k.toNat = pre.length by omega]
      exact (List.prefix_iff_eq_take.1 hpre).symm
    have He := Lib.hid he
    have hrow' := ownsRow_putObj hrow (.deferred none) hK rfl
    obtain ⟨A', m', c', rfl, hSl⟩ := Wd.Sl.of_own hrow'
    clear he hlk hI0 hseq eg hpre
    gi_wp2
    refine ⟨by simp, .inl ⟨_, _, rfl, run_takeDeferred hK, ?_⟩⟩
    exact ⟨_, results_tmp rfl _ _ _, ⟨_, _, _, rfl, by rw [He.out]; exact hSl, hB.trans (belowK_b (w := w) (Nat.le_refl _) W D _ _ (by omega) hK rfl rfl)⟩⟩
/-- List, where the set lies and All hands on. -/
theorem list_any (A : Option Addr) (sn sc : Nat) (X : List Int) (k : Int) (w : World)
    (Hall : ∀ wl, Below w.heap.size w wl → CallsIn Fence.wide 3 Tryd.prog 30 #[.agg #[.slice A sn sc]] wl (Hands w.heap.size wl X)) :
    Calls Tryd.prog 12 #[.agg #[.slice A sn sc], .int .i64 k] w (Wd.Out w .i64 (hd k X)) := by
  by_cases h0 : k = 0
  · subst h0
    have he : hd 0 X = [] := by unfold hd; rw [if_neg (by omega)]; rfl
    rw [he]
    go_enter Tryd.func12, Tryd.ntmps12
    go_wp2_with fail
    go_ret
    exact ⟨_, _, _, rfl, Wd.Sl.none_ _ _, (((Below.refl _ w).alloc (Nat.le_refl _) _).alloc (by simp) _).alloc (by simp; omega) _⟩
  · exact (callsIn_wide (n := 4)).1 (list_in 4 (by omega) A sn sc X k w h0 Hall)
end Bi
end Go.Proofs.YtgmjafammdkgfaaDoor
