/- What List of the statements of layer 9 does with whatever All hands on: a range over a function, its body appends and may break. Package bitset: All: an iterator over words and their bits; math/bits' TrailingZeros64. -/
import Derived.RangeFuncNested
import Derived.RangeFuncBound
import Derived.RangeFuncCalls
import Derived.RangeFuncLeaves
import Derived.Shelf.Abstract
import Derived.Shelf.RegionOpen
import Derived.WalkKit
import Derived.OwnWalkIn
import Derived.TacticsInMore
import Derived.LoopNIn
import Derived.LoopIn
import Derived.Sort.QuietIn
import Derived.Lib.Hide
import Derived.Maps.AppendAt
import Derived.Laws.Bits64b
import Derived.Test.YtpappcmgnnmbeaaDoorPk09
import Derived.Test.YtpappcmgnnmbeaaDoorPk25
namespace Go.Proofs.YtpappcmgnnmbeaaDoor
set_option maxRecDepth 20000
open Go.RowKit Go.Shelf
attribute [local go_sem] Oper.semAt_some
namespace Bi
open Bs Bx
/-- What a round that goes on keeps: what lay below n, and block b. -/
def Keeps (n b : Nat) (W W' : World) : Prop := Below n W W' ∧ W'.heap[b]? = W.heap[b]?
theorem Keeps.refl (n b : Nat) (W : World) : Keeps n b W W := ⟨Below.refl _ _, rfl⟩
theorem Keeps.trans {n b : Nat} {A B C : World} (h : Keeps n b A B) (k : Keeps n b B C) : Keeps n b A C := ⟨h.1.trans k.1, k.2.trans h.2⟩
theorem keeps_b {n₀ b : Nat} {w : World} (hn : n₀ ≤ w.heap.size) (hb : b < w.heap.size) (W : World) (l : Nat) (o o' : Obj) (hl : w.heap.size ≤ l) (h : W.heap[l]? = some o) (h1 : o.isCells = false) (h2 : o.isWalk = false) : Keeps n₀ b W (W.putObj l o') :=
  ⟨belowK_b hn W l o o' hl h h1 h2, World.putObj_heap_other (by omega)⟩
/-- What All answers in wl, where the set lies below n₀: a function that hands on the numbers of X in order, while what lies below n₀ and one block of its own are kept. -/
def Hands (n₀ : Nat) (wl : World) (X : List Int) (e : Ending) (w' : World) : Prop :=
  ∃ f cap b N, e = .returned (.func (.func f) #[] cap) ∧ (∀ args w, (callFunc f args).run Tryd.prog w = .ok (.enter f args) w) ∧ Below wl.heap.size wl w' ∧ wl.heap.size ≤ b ∧ b < w'.heap.size ∧ N ≤ 100000 ∧
    ∀ n, 2 ≤ n → SeqStopsK Fence.wide n Tryd.prog f cap (fun x : Int => #[.int .i64 x]) (Keeps n₀ b) (fun ys => ys = X) (fun pre => pre <+: X) N w'
/-- A round of List: the boxes of what was collected and of how many are asked; what was collected lies behind base. -/
def ListI (w : World) (base : Nat) (k : Int) (pre : List Int) (W : World) : Prop :=
  (∃ v, Boxed W (w.heap.size + 1 + 1) 28 v ∧ W.ownsRow base 3 1 v pre.length (pre.map (Value.int .i64)) ∧ True) ∧ Boxed W (w.heap.size + 1) 3 (.int .i64 k) ∧ (k < 0 ∨ (pre.length : Int) < k) ∧ base ≤ W.heap.size ∧ Below w.heap.size w W
theorem bx_own {β : Type} (g : Nat) (t : TypeId) (cs : Array Value) : Own (fun (_ : β) W => Wd.Bx W g t cs) := fun _ X Y row hv hg hrow => hv.grown hg (fun e => by
  obtain ⟨o, ho, hc⟩ := hrow g e.symm
  rw [show X.heap[g]? = _ from hv] at ho
  cases ho
  cases hc)
theorem listI_own (w : World) (base : Nat) (k : Int) (B : Nat) (hB : w.heap.size ≤ B) : OwnFrom B (ListI w base k) :=
  OwnFrom.and (Own.from (holdsRow_own base (w.heap.size + 1 + 1) _ _ 1 (fun pre : List Int => pre.length) (fun pre => pre.map (Value.int .i64)) (fun _ _ => True)) _) (OwnFrom.and (Own.from (bx_own _ _ _) _) (OwnFrom.and (fun _ _ _ _ hs _ _ => hs) (OwnFrom.and (fun _ _ _ _ hs hg _ => Nat.le_trans hs hg.size) (ownFrom_below (Nat.le_refl _) hB))))
/-- .. and a round that has left. -/
def ListX (w : World) (base : Nat) (k : Int) (c : Code) (pre : List Int) (W : World) : Prop :=
  (∃ v, Boxed W (w.heap.size + 1 + 1) 28 v ∧ W.ownsRow base 3 1 v pre.length (pre.map (Value.int .i64)) ∧ True) ∧ (c = .exit 0 ∧ (pre.length : Int) = k) ∧ Below w.heap.size w W
theorem listX_own (w : World) (base : Nat) (k : Int) (c : Code) (B : Nat) (hB : w.heap.size ≤ B) : OwnFrom B (ListX w base k c) :=
  OwnFrom.and (Own.from (holdsRow_own base (w.heap.size + 1 + 1) _ _ 1 (fun pre : List Int => pre.length) (fun pre => pre.map (Value.int .i64)) (fun _ _ => True)) _) (OwnFrom.and (fun _ _ _ _ hs _ _ => hs) (ownFrom_below (Nat.le_refl _) hB))
theorem own_down {w : World} {B B' : Nat} {e : TypeId} {size n : Nat} {v : Value} {xs : List Value} (h : w.ownsRow B e size v n xs) (hB : B' ≤ B) : w.ownsRow B' e size v n xs :=
  ⟨h.1, h.2.imp id fun ⟨g, cap, cur, h1, h2, h3⟩ => ⟨g, cap, cur, h1, Nat.le_trans hB h2, h3⟩⟩
/-- Another block, behind an append and a store. -/
theorem same_set {W w2 : World} {o : Obj} {row : Option Nat} {g b : Nat} {v : Value} (hg : (W.alloc o).grownBy w2 row) (hne : some g ≠ row) (hb : b ≠ g) (hlt : g < W.heap.size) : (w2.setCell ⟨b, 0, none⟩ v).heap[g]? = W.heap[g]? := by
  rw [heap_setCell_other w2 _ _ _ (by simpa using fun e => hb e.symm)]
  rw [hg.block g (by simp; omega) hne]
  exact Below.heap_alloc W _ _ hlt
theorem kept_set {W w2 : World} {o : Obj} {row : Option Nat} {g b : Nat} {v u : Value} {t : TypeId} (h : Boxed W g t u) (hg : (W.alloc o).grownBy w2 row) (hne : some g ≠ row) (hb : b ≠ g) : Boxed (w2.setCell ⟨b, 0, none⟩ v) g t u :=
  (same_set hg hne hb h.lt).trans h
set_option maxRecDepth 100000 in
set_option maxHeartbeats 4000000 in
theorem list_in (n : Nat) (hn : 4 ≤ n) (A : Option Addr) (sn sc : Nat) (X : List Int) (k : Int) (w : World) (hk : k ≠ 0)
    (Hall : ∀ wl, Below w.heap.size w wl → CallsIn Fence.wide (n - 1) Tryd.prog 40 #[.agg #[.slice A sn sc]] wl (Hands w.heap.size wl X)) :
    CallsIn Fence.wide n Tryd.prog 20 #[.agg #[.slice A sn sc], .int .i64 k] w (Wd.Out w .i64 (hd k X)) := by
  have h1 : 1 ≤ n := by omega
  have hk0 : (k == 0) = false := by simpa using hk
  obtain ⟨i0, hi, hz0, hz1, hz2⟩ := info_parts info_i
  refine callsIn_of_wp_marks Tryd.func20 rfl trivial ?_ rfl
  simp only [Tryd.ntmps20, List.size_toArray, List.length_cons, List.length_nil, Nat.reduceAdd, Nat.reduceSub, Array.replicate_succ, Array.replicate_zero, List.push_toArray, List.append_toArray, List.nil_append, List.cons_append]
  have b0 := Boxed.new w 54 (.slice A sn sc)
  have b1 := Boxed.new (w.alloc (.cells #[.slice A sn sc] 54)) 3 (.int .i64 k)
  have b2 := Boxed.new ((w.alloc (.cells #[.slice A sn sc] 54)).alloc (.cells #[.int .i64 k] 3)) 28 (.slice none 0 0)
  rw [World.size_alloc] at b1
  rw [World.size_alloc, World.size_alloc] at b2
  have hb0 : Below w.heap.size w (((w.alloc (.cells #[.slice A sn sc] 54)).alloc (.cells #[.int .i64 k] 3)).alloc (.cells #[.slice none 0 0] 28)) := (((Below.refl _ w).alloc (Nat.le_refl _) _).alloc (by simp) _).alloc (by simp; omega) _
  have Ca := Lib.hid (Hall _ hb0)
  have b1' := b1.alloc (.cells #[.slice none 0 0] 28)
  have hz : (((w.alloc (.cells #[.slice A sn sc] 54)).alloc (.cells #[.int .i64 k] 3)).alloc (.cells #[.slice none 0 0] 28)).heap.size = w.heap.size + 1 + 1 + 1 := by simp
  have hnil : ∀ (f : Nat) (cap : Array Value) (w : World), (binOp .eql 89 (.func (.func f) #[] cap) .nilFunc).run Tryd.prog w = .ok (.bool false) w := fun _ _ _ => by kernel_rfl
  clear b0 b1 Hall
  gi_wp2_with (refine ⟨trivial, ?_⟩; gi_at_call 40; refine Ca.out.mono ?_; rintro e w1 ⟨f, cap, b, N, rfl, eg, hb1, hlb, hbl, hN, hseq⟩)
  have hw1 : w.heap.size + 1 + 1 + 1 ≤ w1.heap.size := by rw [← hz]; exact hb1.size
  have hbw : Below w.heap.size w w1 := hb0.trans (hb1.mono (by rw [hz]; omega))
  have bK : Boxed w1 (w.heap.size + 1) 3 (.int .i64 k) := Wd.Bx.below b1' b1'.lt hb1
  have bO : Boxed w1 (w.heap.size + 1 + 1) 28 (.slice none 0 0) := Wd.Bx.below b2 b2.lt hb1
  have hbn : w.heap.size + 1 + 1 + 1 ≤ b := by rw [← hz]; exact hlb
  clear Ca b1' b2 hb0 hb1 hz hlb hnil
  have hk2 : k < 0 ∨ (([] : List Int).length : Int) < k := by simp only [List.length_nil]; omega
  have hI0 : ListI w w1.heap.size k [] w1 := ⟨⟨_, bO, World.ownsRow_nil _ _ _ _, trivial⟩, bK, hk2, Nat.le_refl _, hbw⟩
  refine wpIn_rangeFunc_ownH rfl h1 (gf := f) (lb := cap) rfl trivial eg
    (hseq (n - 1) (by omega)) Keeps.trans (keeps_b (by omega) hbl) (Below.refl _ _) (fun _ => rfl)
    (ListI w w1.heap.size k) (ListX w w1.heap.size k) (listI_own w _ k _ (by omega)) (fun c => listX_own w _ k c _ (by omega)) hI0
    (fun x a' _ => a' = { tmps := #[.agg #[.slice A sn sc], .int .i64 k, .pointer (some ⟨w.heap.size, 0, none⟩), .pointer (some ⟨w.heap.size + 1, 0, none⟩), .slice none 0 0, .pointer (some ⟨w.heap.size + 1 + 1, 0, none⟩), .func (.func f) #[] cap, .int .i64 x, .int .i64 k, .bool false, undef, .agg #[.slice A sn sc], .func (.func f) #[] cap, .func (.func f) #[] cap, .bool false, undef, .func (.func f) #[] cap, .int .i64 x, undef, undef, undef, undef, undef, undef, undef, undef, undef], defers := [] }) (fun _ _ _ _ _ _ h _ _ => h) ?assign ?body ?done ?stop
  case assign =>
    rintro l' pre x W K hI hK
    gi_wp2
    exact hK _ _ (KeepsFrom.refl _ _) (Keeps.refl _ _ _) hI rfl
  case body =>
    rintro l' pre x a' W hl' ⟨r, hr⟩ ⟨⟨v, bV, hrow, _⟩, bK', hlk, hWsz, hB⟩ rfl hlt
    have cV := bV.cell
    have fV := bV.frozen
    have hsz := hB.size
    clear hI0 hr hl' bK bO
    have hle : w.heap.size ≤ w1.heap.size := by omega
    have hneK : some (w.heap.size + 1) ≠ v.ownBlock := fun e => by have := (hrow.lt _ e.symm).1; omega
    have hneB : some b ≠ v.ownBlock := fun e => by have := (hrow.lt _ e.symm).1; omega
    by_cases hq : (pre.length : Int) + 1 = k
    · have hqb : ((pre.length : Int) + 1 == k) = true := by simpa using hq
      have Hq := Lib.hid hq
      clear hq
      gi_wp2_with (gi_at_builtin; refine wpListIn_append_own _ rfl (.tmp 18) (.tmp 20) 28 rfl w1.heap.size 3 i0 _ 1 8 Tryd.underlying28 hi hz0 hz1 hz2 rfl (by decide) _ _ _ rfl (hrow.alloc _) ⟨W.heap.size, 0, none⟩ 1 1 [.int .i64 x] rfl rfl (cell_one_new _ _ _) (by simp [Value.oneCell']) (by unfold maxLen; omega) (by omega) (by simp; omega) ?_; intro v' w2 hown' hgrow _; obtain ⟨g', cap', rfl⟩ := ownsRow_succ hown'; obtain ⟨hv1, hv2, hr2, hk2', hb2⟩ := bV.appended (by decide) (own_down hrow hle) hB.size (by omega) (own_down hown' hle) hgrow; have hc1 := hv1.cell; have hf1 := hv1.frozen; have bK2 := kept_set (b := w.heap.size + 1 + 1) (v := .slice (some ⟨g', 0, none⟩) (pre.length + 1) cap') bK' hgrow hneK (by omega); have cK2 := bK2.cell; have hr3 := hown'.kept (grownBy_setCell' w2 (w.heap.size + 1 + 1) (.slice (some ⟨g', 0, none⟩) (pre.length + 1) cap')) (.inr (hv1.not_row (by decide) hown').symm); have hkb := same_set (b := w.heap.size + 1 + 1) (v := .slice (some ⟨g', 0, none⟩) (pre.length + 1) cap') hgrow hneB (show w.heap.size + 1 + 1 ≠ b by omega) (show b < W.heap.size by omega); have hz2' : w1.heap.size ≤ (w2.setCell ⟨w.heap.size + 1 + 1, 0, none⟩ (.slice (some ⟨g', 0, none⟩) (pre.length + 1) cap')).heap.size := Nat.le_trans hWsz hb2.size)
      exact ⟨hk2'.from _, ⟨⟨_, hv2, by rw [List.length_append, List.map_append]; exact hr3, trivial⟩, ⟨rfl, by rw [List.length_append]; exact_mod_cast Hq.out⟩, hB.trans hb2⟩⟩
    · have hqb : ((pre.length : Int) + 1 == k) = false := by simpa using hq
      have Hq := Lib.hid (show k < 0 ∨ ((pre.length : Int) + 1) < k by omega)
      clear hq
      gi_wp2_with (gi_at_builtin; refine wpListIn_append_own _ rfl (.tmp 18) (.tmp 20) 28 rfl w1.heap.size 3 i0 _ 1 8 Tryd.underlying28 hi hz0 hz1 hz2 rfl (by decide) _ _ _ rfl (hrow.alloc _) ⟨W.heap.size, 0, none⟩ 1 1 [.int .i64 x] rfl rfl (cell_one_new _ _ _) (by simp [Value.oneCell']) (by unfold maxLen; omega) (by omega) (by simp; omega) ?_; intro v' w2 hown' hgrow _; obtain ⟨g', cap', rfl⟩ := ownsRow_succ hown'; obtain ⟨hv1, hv2, hr2, hk2', hb2⟩ := bV.appended (by decide) (own_down hrow hle) hB.size (by omega) (own_down hown' hle) hgrow; have hc1 := hv1.cell; have hf1 := hv1.frozen; have bK2 := kept_set (b := w.heap.size + 1 + 1) (v := .slice (some ⟨g', 0, none⟩) (pre.length + 1) cap') bK' hgrow hneK (by omega); have cK2 := bK2.cell; have hr3 := hown'.kept (grownBy_setCell' w2 (w.heap.size + 1 + 1) (.slice (some ⟨g', 0, none⟩) (pre.length + 1) cap')) (.inr (hv1.not_row (by decide) hown').symm); have hkb := same_set (b := w.heap.size + 1 + 1) (v := .slice (some ⟨g', 0, none⟩) (pre.length + 1) cap') hgrow hneB (show w.heap.size + 1 + 1 ≠ b by omega) (show b < W.heap.size by omega); have hz2' : w1.heap.size ≤ (w2.setCell ⟨w.heap.size + 1 + 1, 0, none⟩ (.slice (some ⟨g', 0, none⟩) (pre.length + 1) cap')).heap.size := Nat.le_trans hWsz hb2.size)
      exact ⟨hk2'.from _, ⟨hb2, hkb⟩, ⟨⟨_, hv2, by rw [List.length_append, List.map_append]; exact hr3, trivial⟩, bK2, by rw [List.length_append]; exact_mod_cast Hq.out, hz2', hB.trans hb2⟩⟩
  case done =>
    rintro D ys W hD rfl ⟨⟨v, bV, hrow, _⟩, bK', hlk, hWsz, hB⟩ hK
    have cV := bV.cell
    have he : hd k ys = ys := by
      unfold hd
      rcases hlk with h | h
      · rw [if_pos h]
      · rw [if_neg (by omega)]
        exact List.take_of_length_le (by omega)
    have He := Lib.hid he
    have hrow' := ownsRow_putObj hrow (.deferred none) hK rfl
    obtain ⟨A', m', c', rfl, hSl⟩ := Wd.Sl.of_own hrow'
    clear he hlk bK' hI0 hseq eg
    gi_wp2
    refine ⟨by simp, .inl ⟨_, _, rfl, run_takeDeferred hK, ?_⟩⟩
    exact ⟨_, results_tmp rfl _ _ _, ⟨_, _, _, rfl, by rw [He.out]; exact hSl, hB.trans (belowK_b (w := w) (Nat.le_refl _) W D _ _ (by omega) hK rfl rfl)⟩⟩
  case stop =>
    rintro D c pre W hD hpre ⟨⟨v, bV, hrow, _⟩, ⟨rfl, hlk⟩, hB⟩ hK
    have cV := bV.cell
    have he : hd k X = pre := by
      unfold hd
      rw [if_neg (by omega), show k.toNat = pre.length by omega]
      exact (List.prefix_iff_eq_take.1 hpre).symm
    have He := Lib.hid he
    have hrow' := ownsRow_putObj hrow (.deferred none) hK rfl
    obtain ⟨A', m', c', rfl, hSl⟩ := Wd.Sl.of_own hrow'
    clear he hlk hI0 hseq eg hpre
    gi_wp2
    refine ⟨by simp, .inl ⟨_, _, rfl, run_takeDeferred hK, ?_⟩⟩
    exact ⟨_, results_tmp rfl _ _ _, ⟨_, _, _, rfl, by rw [He.out]; exact hSl, hB.trans (belowK_b (w := w) (Nat.le_refl _) W D _ _ (by omega) hK rfl rfl)⟩⟩
/-- List, where the set lies and All hands on. -/
theorem list_any (A : Option Addr) (sn sc : Nat) (X : List Int) (k : Int) (w : World)
    (Hall : ∀ wl, Below w.heap.size w wl → CallsIn Fence.wide 3 Tryd.prog 40 #[.agg #[.slice A sn sc]] wl (Hands w.heap.size wl X)) :
    Calls Tryd.prog 20 #[.agg #[.slice A sn sc], .int .i64 k] w (Wd.Out w .i64 (hd k X)) := by
  by_cases h0 : k = 0
  · subst h0
    have he : hd 0 X = [] := by unfold hd; rw [if_neg (by omega)]; rfl
    rw [he]
    go_enter Tryd.func20, Tryd.ntmps20
    go_wp2_with fail
    go_ret
    exact ⟨_, _, _, rfl, Wd.Sl.none_ _ _, (((Below.refl _ w).alloc (Nat.le_refl _) _).alloc (by simp) _).alloc (by simp; omega) _⟩
  · exact (callsIn_wide (n := 4)).1 (list_in 4 (by omega) A sn sc X k w h0 Hall)
end Bi
end Go.Proofs.YtpappcmgnnmbeaaDoor
namespace Go.Proofs.YtpappcmgnnmbeaaDoor
set_option maxRecDepth 20000
open Go.RowKit Go.Shelf
attribute [local go_sem] Oper.semAt_some
namespace Bw
open Bs Bx Bi
set_option maxHeartbeats 2000000 in
theorem tz_any (x : Nat) (h0 : x ≠ 0) (hx : x < 18446744073709551616) (w : World) (hT : Tab w) :
    Calls Tryd.prog 64 #[.int .u64 (x : Int)] w fun e w' => e = .returned (.int .i64 (Lib.ctz 64 x : Int)) ∧ w' = w := by
  obtain ⟨hlow, hk⟩ := Lib.lowest_bit 64 x h0 hx
  obtain ⟨hi, htab⟩ := Lib.deBruijn64_at _ hk
  have hl : x &&& (18446744073709551616 - x) = 2 ^ Lib.ctz 64 x := hlow
  have hcell := hT _ hi
  rw [htab] at hcell
  obtain ⟨k, hk'⟩ : ∃ k, k = Lib.ctz 64 x := ⟨_, rfl⟩
  rw [← hk'] at hk hcell hi hl ⊢
  obtain ⟨a, ha⟩ : ∃ a, a = 2 ^ k := ⟨_, rfl⟩
  rw [← ha] at hcell hi hl
  obtain ⟨i, hi'⟩ : ∃ i, i = a * 285870213051353865 % 18446744073709551616 / 288230376151711744 := ⟨_, rfl⟩
  rw [← hi'] at hi hcell
  have key : IntKind.u64.wrap (bits BinOp.and IntKind.u64 (x : Int) (IntKind.u64.wrap (-(x : Int))) * 285870213051353865) / 288230376151711744 = (i : Int) := by
    have e1 : IntKind.u64.wrap (-(x : Int)) = ((18446744073709551616 - x : Nat) : Int) := by rw [IntKind.wrap_u64]; omega
    rw [e1, bits_and_u64_nat x _ hx (by omega), hl, IntKind.wrap_u64, hi', Int.natCast_ediv, Int.natCast_emod, Int.natCast_mul]
    rfl
  have hx0 : ((x : Int) == 0) = false := by simpa using h0
  clear hk' hi' hlow htab hT h0 ha hl
  go_enter Tryd.func64, Tryd.ntmps64
  go_wp2_with (simp only [key])
  go_ret
  exact ⟨rfl, rfl⟩
theorem tab_keep {w W W' : World} {n₀ : Nat} (hT : Tab w) (hn : w.heap.size ≤ n₀) (h : Below n₀ W W') (hW : Tab W) : Tab W' := fun j hj => (h.cell (Nat.lt_of_lt_of_le (World.block_lt_of_cell? w _ (hT j hj)) hn)).trans (hW j hj)
/-- Ahead of the word a (of which x is left) the numbers pre have come. -/
def AtW (L : List Nat) (a x : Nat) (pre : List Int) : Prop := a < L.length ∧ x < 18446744073709551616 ∧ pre ++ wl a x = lstW (L.take (a + 1))
theorem atW_in {L : List Nat} {a : Nat} {pre : List Int} (hL : Wo L) (h : a < L.length) (e : pre = lstW (L.take a)) : AtW L a (L.getD a 0) pre := ⟨h, hL.2 a, by rw [e, lst_next L a h]⟩
theorem atW_out {L : List Nat} {a : Nat} {pre : List Int} (h : AtW L a 0 pre) : pre = lstW (L.take (a + 1)) := by
  have := h.2.2
  rwa [wl_zero, List.append_nil] at this
theorem atW_next {L : List Nat} {a x : Nat} {pre : List Int} (h : AtW L a x pre) (h0 : x ≠ 0) : AtW L a (x &&& (x - 1)) (pre ++ [(a : Int) * 64 + (Lib.ctz 64 x : Int)]) := by
  refine ⟨h.1, Nat.lt_trans (low_lt x h0) h.2.1, ?_⟩
  rw [← h.2.2, wl_next a x h0 h.2.1, List.append_assoc, List.singleton_append]
theorem atW_pre {L : List Nat} {a x : Nat} {pre : List Int} (h : AtW L a x pre) : pre <+: lstW L :=
  (List.prefix_append pre (wl a x)).trans (h.2.2 ▸ lst_pre L (a + 1) h.1)
theorem atW_lt {L : List Nat} {a x : Nat} {pre : List Int} (hL : Wo L) (h : AtW L a x pre) (h0 : x ≠ 0) : pre.length < 65536 := by
  have h1 := congrArg List.length h.2.2
  rw [wl_next a x h0 h.2.1, List.length_append, List.length_cons] at h1
  have h2 := lst_le (L.take (a + 1))
  have h3 := hL.1
  have h4 := h.1
  simp only [List.length_take] at h2
  omega
set_option maxRecDepth 100000 in
set_option maxHeartbeats 2000000 in
theorem each_in (n : Nat) (hn : 1 ≤ n) (l Bl n₀ : Nat) (A : Option Addr) (m c : Nat) (L : List Nat) (w0 : World) (hT0 : Tab w0) (hw0 : w0.heap.size ≤ n₀) (hL : Wo L) (J Jx : List Int → World → Prop) (W : World)
    (hY : ∀ pre x W, J pre W → pre.length < 65536 → YieldAt Fence.wide (n - 1) Tryd.prog l #[.int .i64 x] W fun e W' =>
      (e = .returned (.bool true) ∧ J (pre ++ [x]) W' ∧ Keeps n₀ Bl W W') ∨ (e = .returned (.bool false) ∧ Jx (pre ++ [x]) W'))
    (hBx : Wd.Bx W Bl 54 #[.slice A m c]) (hTW : Tab W) (hS : Wd.Sl w0 .u64 A m c (nat L)) (hbel : Below n₀ w0 W) (h0 : J [] W) :
    CallsIn Fence.wide n Tryd.prog 63 #[.func (.yield l) #[] #[], .pointer (some ⟨Bl, 0, none⟩)] W fun e W' => (∃ v, e = .returned v) ∧
      ((∃ ys, ys = lstW L ∧ J ys W') ∨ (∃ pre, pre <+: lstW L ∧ Jx pre W')) := by
  have cB := hBx.cell 0
  have cB' : W.cell? ⟨Bl, 0, none⟩ = some (.slice A m c) := cB
  have hcap := hS.cap
  have hmx := hS.max
  unfold maxLen at hmx
  have hm : m = L.length := by rw [hS.len, nat_len]
  have hm1 : m ≤ 1024 := by rw [hm]; exact hL.1
  have hrd := hS.rd
  have Hm := Lib.hid hm
  have HL := Lib.hid hL
  have HT0 := Lib.hid hT0
  have HTW := Lib.hid hTW
  have Tz := Lib.hid fun x h0 hx w hT => (callsIn_wide (n := n - 1)).2 (tz_any x h0 hx w hT)
  clear cB hS hm hL hT0 hTW
  refine callsIn_of_wp Tryd.func63 rfl trivial ?_ rfl
  simp only [Tryd.ntmps63, List.size_toArray, List.length_cons, List.length_nil, Nat.reduceAdd, Nat.reduceSub, Array.replicate_succ, Array.replicate_zero, List.push_toArray, List.append_toArray, List.nil_append, List.cons_append]
  gi_wp2
  gi_loopw [3, 4, 8] (fun s v j wr => ∃ (a : Nat) (pre : List Int), j = .int .i64 a ∧ a ≤ m ∧ Hid (pre = lstW (L.take a)) ∧ J pre wr ∧ Keeps n₀ Bl W wr) (fun _ _ j _ => m - (intOf j).toNat)
  case atStart => exact ⟨0, [], rfl, Nat.zero_le _, Lib.hid rfl, h0, Keeps.refl _ _ _⟩
  case round =>
    obtain ⟨a, pre, rfl, hk, hA, hJs, hK⟩ := hrel
    by_cases hlt : a < m
    · obtain ⟨x, hx⟩ : ∃ x, x = L.getD a 0 := ⟨_, rfl⟩
      have hal : a < L.length := by rw [← Hm.out]; exact hlt
      obtain ⟨b, o, rfl, hbB, hcell0⟩ := hrd a (by rw [nat_len]; exact hal)
      rw [nat_getD, ← hx] at hcell0
      have hcx := (hK.1.cell (p := ⟨b, o + a, none⟩) (Nat.lt_of_lt_of_le hbB hw0)).trans ((hbel.cell (p := ⟨b, o + a, none⟩) (Nat.lt_of_lt_of_le hbB hw0)).trans hcell0)
      have hI := Lib.hid (atW_in HL.out hal hA.out)
      rw [← hx] at hI
      have haI : (a : Int) < (m : Int) := by omega
      clear hcell0 hx hal
      gi_wp2
      gi_loopw [4] (fun v wr => ∃ (y : Nat) (pre : List Int), v = .int .u64 y ∧ Hid (AtW L a y pre) ∧ J pre wr ∧ Keeps n₀ Bl W wr) (fun v _ => (intOf v).toNat)
      case atStart => exact ⟨x, pre, rfl, hI, hJs, hK⟩
      case round =>
        clear hJs hK hI hcx
        obtain ⟨y, pre, rfl, hI, hJs, hK⟩ := hrel
        by_cases hy0 : y = 0
        · subst hy0
          have hout := Lib.hid (atW_out hI.out)
          gi_wp2
          go_roundw
          case rel => exact ⟨a + 1, pre, by go_num, by omega, hout, hJs, hK⟩
          case measure => simp [intOf]; omega
        · have hnext := Lib.hid (atW_next hI.out hy0)
          have hlt2 := low_lt y hy0
          have hlen := atW_lt HL.out hI.out hy0
          have hy64 := hI.out.2.1
          have hTr := tab_keep HT0.out hw0 hK.1 HTW.out
          have C := Lib.hid (Tz.out y hy0 hy64 _ hTr)
          have hk64 : Lib.ctz 64 y < 64 := (Lib.lowest_bit 64 y hy0 hy64).2
          have hyb : ((y : Int) == 0) = false := by simpa using hy0
          have hsub : IntKind.u64.wrap ((y : Int) - 1) = ((y - 1 : Nat) : Int) := by rw [IntKind.wrap_u64]; omega
          have hand := bits_and_u64_nat y (y - 1) hy64 (by omega)
          obtain ⟨k, hk'⟩ : ∃ k, k = Lib.ctz 64 y := ⟨_, rfl⟩
          rw [← hk'] at C hk64 hnext
          obtain ⟨z, hz⟩ : ∃ z, z = y &&& (y - 1) := ⟨_, rfl⟩
          rw [← hz] at hand hnext hlt2
          obtain ⟨y1, hy1⟩ : ∃ y1, y1 = y - 1 := ⟨_, rfl⟩
          rw [← hy1] at hand hsub
          obtain ⟨fn, tmps, assign, body, hy, hRd⟩ := hY pre ((a : Int) * 64 + (k : Int)) _ hJs hlen
          clear hk' hz hy1 hTr hy64 hlen
          gi_wp2_with (refine ⟨trivial, ?_⟩; gi_at_call 64; refine C.out.mono ?_; rintro e w1 ⟨rfl, rfl⟩)
          refine hRd.mono ?_
          rintro e W3 (⟨rfl, hJ3, hk3⟩ | ⟨rfl, hJx3⟩)
          · gi_wp2
            go_roundw
            case rel => exact ⟨z, _, rfl, hnext, hJ3, hK.trans hk3⟩
            case measure => simp [intOf]; omega
          · have hpre := atW_pre hnext.out
            gi_wp2
            refine bodyPost_ret (results_none rfl _ _ _) rfl ?_
            exact ⟨⟨_, rfl⟩, .inr ⟨_, hpre, hJx3⟩⟩
    · have haI : ¬ (a : Int) < (m : Int) := by omega
      have hfin := Lib.hid (show pre = lstW L by
        have := hA.out
        rwa [List.take_of_length_le (by rw [← Hm.out]; omega)] at this)
      gi_wp2
      go_end0
      exact ⟨⟨_, rfl⟩, .inl (hfin.out ▸ hJs)⟩
theorem all_in (n : Nat) (A : Option Addr) (m c : Nat) (w : World) :
    CallsIn Fence.wide n Tryd.prog 40 #[.agg #[.slice A m c]] w fun e w' => e = .returned (.func (.func 63) #[] #[.pointer (some ⟨w.heap.size, 0, none⟩)]) ∧ w' = w.alloc (.cells #[.slice A m c] 54) := by
  refine callsIn_of_wp Tryd.func40 rfl trivial ?_ rfl
  simp only [Tryd.ntmps40, List.size_toArray, List.length_cons, List.length_nil, Nat.reduceAdd, Nat.reduceSub, Array.replicate_succ, Array.replicate_zero, List.push_toArray, List.append_toArray, List.nil_append, List.cons_append]
  gi_wp2
  go_ret
  exact ⟨rfl, rfl⟩
theorem hands_any (A : Option Addr) (m c : Nat) (X : List Int) (w wl : World) (hX : St w A m c X) (hT : Tab w) (hwl : Below w.heap.size w wl) :
    CallsIn Fence.wide 3 Tryd.prog 40 #[.agg #[.slice A m c]] wl (Hands w.heap.size wl X) := by
  obtain ⟨L, hS, hL, tL, rfl⟩ := hX
  refine (all_in 3 A m c wl).mono ?_
  rintro e w' ⟨rfl, rfl⟩
  have hb1 : Below wl.heap.size wl (wl.alloc (.cells #[.slice A m c] 54)) := (Below.refl _ _).alloc (Nat.le_refl _) _
  have hTl : Tab (wl.alloc (.cells #[.slice A m c] 54)) := (hT.below hwl).below hb1
  refine ⟨_, _, wl.heap.size, 65536, rfl, fun _ _ => by kernel_rfl, hb1, Nat.le_refl _, by simp, by omega, fun n hn l J Jx W hW hJ _ hY h0 => ?_⟩
  exact each_in n (by omega) l wl.heap.size w.heap.size A m c L w hT (Nat.le_refl _) hL J Jx W hY (Wd.Bx.below (Wd.Bx.new wl _ _) (by simp) hW) (hTl.below hW) hS (hwl.trans ((hb1.trans (hW.mono hb1.size)).mono hwl.size)) h0
theorem list_of {w : World} {A : Option Addr} {n c : Nat} {X : List Int} (hX : St w A n c X) (hT : Tab w) (k : Int) :
    Calls Tryd.prog 20 #[.agg #[.slice A n c], .int .i64 k] w (Wd.Out w .i64 (hd k X)) :=
  list_any A n c X k w fun wl hwl => hands_any A n c X w wl hX hT hwl
end Bw
end Go.Proofs.YtpappcmgnnmbeaaDoor
