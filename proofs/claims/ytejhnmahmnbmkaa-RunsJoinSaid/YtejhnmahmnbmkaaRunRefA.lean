/- What the reference functions of layer 3 do: Runs, Same, Sums. -/
import Derived.Test.YtejhnmahmnbmkaaRunRuns
import Derived.Deep.QuietTactic
import Derived.BigQuiet
import Derived.IntWalk
namespace Go.Proofs.Ytejhnmahmnbmkaa
open Go.RowKit
namespace Rc

theorem own_drewN {w : World} {B : Nat} {e : TypeId} {size n : Nat} {v : Value} {xs : List Value} (h : w.ownsRow B e size v n xs) (q : Nat) : (w.drewN q).ownsRow B e size v n xs := h
/-- The runs of the first k numbers, in a row of the call's own. -/
def RrI (w : World) (l : List Int) (k : Nat) (v : Value) (wr : World) : Prop :=
  wr.ownsRow w.heap.size 44 2 v (Rn.runs (l.take k)).length ((Wd.cellsR (Rn.runs (l.take k))).map (Value.int .i64)) ∧ Below w.heap.size w wr

set_option maxHeartbeats 2000000 in
theorem refRuns_any (A : Option Addr) (m c : Nat) (l : List Int) (w : World) (hS : Wd.Sl w .i64 A m c l) (hm : m ≤ 1000000) :
    Calls Try.prog 12 #[.slice A m c] w (Wd.OutR w (Rn.runs l)) := by
  obtain ⟨i0, hi, hz0, hz1, hz2⟩ := info_parts info_run
  have hl := hS.len
  have Hl := Lib.hid hl
  have hcap := hS.cap
  clear hl
  go_enter Try.func12, Try.ntmps12
  go_wp2_with fail
  go_loopw [3, 4] (fun v i wr => ∃ (k : Nat), i = .int .i64 k ∧ k ≤ m ∧ Hid (RrI w l k v wr)) (fun _ i _ => m - (intOf i).toNat)
  case atStart => exact ⟨0, rfl, Nat.zero_le _, Lib.hid ⟨World.ownsRow_nil _ _ _ _, Below.refl _ _⟩⟩
  case round =>
    obtain ⟨k, rfl, hk, hI⟩ := hrel
    by_cases hlt : k < m
    · have hkl : k < l.length := by rw [← Hl.out]; exact hlt
      obtain ⟨b, o, rfl, hb, c0⟩ := hS.rd k hkl
      have hB := hI.out.2
      have c1 := (hB.cell (p := ⟨b, o + k, none⟩) hb).trans c0
      obtain ⟨x, hx⟩ : ∃ x, x = l.getD k 0 := ⟨_, rfl⟩
      rw [← hx] at c1
      have Hx := Lib.hid hx
      have htk := Rn.take_next l k 0 hkl
      rw [← hx] at htk
      have hrs := Rn.runs_snoc (l.take k) x
      rw [← htk] at hrs
      have Hrs := Lib.hid hrs
      have i1 : (k : Int) < (m : Int) := by omega
      have hsz := hB.size
      obtain ⟨wo, rfl⟩ : ∃ wo : World, wo = wr := ⟨_, rfl⟩
      clear hx htk hrs c0
      by_cases hk0 : 0 < k
      · have hd : decide ((0 : Int) < (k : Int)) = true := by simp; omega
        obtain ⟨b', o', e', _, d0⟩ := hS.rd (k - 1) (by omega)
        simp only [Option.some.injEq, Addr.mk.injEq, and_true] at e'
        obtain ⟨rfl, rfl⟩ := e'
        have d1 := (hB.cell (p := ⟨b, o + (k - 1), none⟩) hb).trans d0
        obtain ⟨y, hy⟩ : ∃ y, y = l.getD (k - 1) 0 := ⟨_, rfl⟩
        rw [← hy] at d1
        have Hy := Lib.hid hy
        have htk := Rn.take_next l (k - 1) 0 (by omega)
        rw [← hy, show k - 1 + 1 = k by omega] at htk
        have hla := Rn.runs_last (l.take (k - 1)) y
        rw [← htk] at hla
        have hw1 : IntKind.i64.wrap ((k : Int) - 1) = (k : Int) - 1 := IntWalk.i64_in _ (by omega)
        have h01 : (0 : Int) ≤ (k : Int) - 1 := by omega
        have hl1 : (k : Int) - 1 < (m : Int) := by omega
        have ht1 : ((k : Int) - 1).toNat = k - 1 := by omega
        clear hy d0
        by_cases hxy : x = y
        · have hbq : (x == y) = true := by rw [hxy]; simp
          obtain ⟨r, N, hrN⟩ := hla
          have hNm := Rn.runs_mem (l.take k) (y, N) (by rw [hrN]; simp)
          have hNp := Rn.runs_pos (l.take k) (y, N) (by rw [hrN]; simp)
          have hN1 : 1 ≤ N := hNp
          have hN2 : N ≤ 1000000 := by have := hNm.2; rw [List.length_take] at this; simp only at this; omega
          have hown := hI.out.1
          rw [hrN, List.length_append, List.length_cons, List.length_nil] at hown
          obtain ⟨p, hp⟩ : ∃ p, p = r.length := ⟨_, rfl⟩
          rw [← hp] at hown
          obtain ⟨g, cap, rfl⟩ := ownsRow_succ hown
          have hgB : w.heap.size ≤ g := (hown.lt g rfl).1
          have cN := hown.cellAt (p * 2 + 1) (by omega)
          have fN := hown.frozenAt (p * 2 + 1)
          have hst := (hown.stored (p * 2 + 1) (.int .i64 (N + 1))).1
          have ec : (Wd.cellsR (r ++ [(y, N)])).map (Value.int .i64) = (Wd.cellsR r).map (Value.int .i64) ++ [.int .i64 y, .int .i64 N] := by rw [Wd.cellsR_app]; simp [Wd.cellsR]
          have el : ((Wd.cellsR r).map (Value.int .i64)).length = p * 2 := by rw [List.length_map, Wd.cellsR_len, hp]
          rw [ec] at cN hst
          rw [List.getElem?_append_right (by omega), el, show p * 2 + 1 - p * 2 = 1 by omega] at cN
          rw [List.set_append_right _ _ (by omega), el, show p * 2 + 1 - p * 2 = 1 by omega] at hst
          have er : Rn.runs (l.take (k + 1)) = r ++ [(y, N + 1)] := by rw [Hrs.out, hrN, hxy, Rn.addR_same]
          have hI2 : RrI w l (k + 1) (.slice (some ⟨g, 0, none⟩) (p + 1) cap) (wo.setCell ⟨g, p * 2 + 1, none⟩ (.int .i64 (N + 1))) := by
            refine ⟨?_, hB.setCell hgB _⟩
            rw [er, List.length_append, List.length_cons, List.length_nil, ← hp, Wd.cellsR_app]
            simpa [Wd.cellsR] using hst
          have cN' : wo.cell? ⟨g, p * 2 + 1, none⟩ = some (.int .i64 N) := cN
          have Hxy := Lib.hid hxy
          have HI2 := Lib.hid hI2
          have hpl : p ≤ 1000000 := by
            have h1 := Rn.runs_len (l.take k)
            rw [hrN, List.length_append, List.length_take] at h1
            omega
          clear hrN htk hxy hNm hNp hown hst ec el er hI2 cN hp hI
          go_wp2_with fail
          go_quiet (fail)
          go_wp2_with fail
          go_roundw
          case rel => exact ⟨k + 1, by go_num, by omega, Lib.hid ⟨own_drewN HI2.out.1 _, Wd.below_drewN HI2.out.2 _⟩⟩
          case measure => simp [intOf]; omega
        · have hbq : (x == y) = false := by rw [beq_eq_false_iff_ne]; exact hxy
          have hap : Rn.Apart (Rn.runs (l.take k)) x := by rw [htk]; exact Rn.runs_apart _ _ _ (fun e => hxy e.symm)
          have er : Rn.runs (l.take (k + 1)) = Rn.runs (l.take k) ++ [(x, 1)] := by rw [Hrs.out, Rn.addR_new hap]
          have hown := hI.out.1
          have hrl := Rn.runs_len (l.take k)
          rw [List.length_take] at hrl
          have hrl2 : (Rn.runs (l.take k)).length ≤ 1000000 := by omega
          have Her := Lib.hid er
          clear er hrl hap htk hxy hla
          go_wp2_with fail
          go_quiet (fail)
          go_wp2_with (at_builtin; refine wpList_append_own _ rfl (.tmp 35) (.tmp 41) 23 rfl w.heap.size 44 i0 _ 2 16 Try.underlying23 hi hz0 hz1 hz2 rfl (by decide) _ _ _ rfl ((own_drewN hown nq).alloc _) ⟨wo.heap.size, 0, none⟩ 1 1 [.int .i64 x, .int .i64 1] rfl rfl (two_new _ _ _ _) (by simp [Value.oneCell']) (by unfold maxLen; omega) (by omega) (by simp; omega) ?_; intro v' w1 hown' hgrow _)
          go_roundw
          case rel => exact ⟨k + 1, by go_num, by omega, Lib.hid ⟨by rw [Her.out, List.length_append, Wd.cellsR_app]; simpa [Wd.cellsR] using hown', ((Wd.below_drewN hB nq).alloc hsz _).grown hgrow (by simp; omega) (fun g hg => (hown.lt g hg).1)⟩⟩
          case measure => simp [intOf]; omega
      · have hd : decide ((0 : Int) < (k : Int)) = false := by simp; omega
        have hap : Rn.Apart (Rn.runs (l.take k)) x := by
          rw [show k = 0 by omega]
          exact Rn.apart_nil x
        have er : Rn.runs (l.take (k + 1)) = Rn.runs (l.take k) ++ [(x, 1)] := by rw [Hrs.out, Rn.addR_new hap]
        have hown := hI.out.1
        have hrl := Rn.runs_len (l.take k)
        rw [List.length_take] at hrl
        have hrl2 : (Rn.runs (l.take k)).length ≤ 1000000 := by omega
        have Her := Lib.hid er
        clear er hrl hap 
        go_wp2_with fail
        go_quiet (fail)
        go_wp2_with (at_builtin; refine wpList_append_own _ rfl (.tmp 35) (.tmp 41) 23 rfl w.heap.size 44 i0 _ 2 16 Try.underlying23 hi hz0 hz1 hz2 rfl (by decide) _ _ _ rfl ((own_drewN hown nq).alloc _) ⟨wo.heap.size, 0, none⟩ 1 1 [.int .i64 x, .int .i64 1] rfl rfl (two_new _ _ _ _) (by simp [Value.oneCell']) (by unfold maxLen; omega) (by omega) (by simp; omega) ?_; intro v' w1 hown' hgrow _)
        go_roundw
        case rel => exact ⟨k + 1, by go_num, by omega, Lib.hid ⟨by rw [Her.out, List.length_append, Wd.cellsR_app]; simpa [Wd.cellsR] using hown', ((Wd.below_drewN hB nq).alloc hsz _).grown hgrow (by simp; omega) (fun g hg => (hown.lt g hg).1)⟩⟩
        case measure => simp [intOf]; omega
    · have e : l.take k = l := List.take_of_length_le (by have := Hl.out; omega)
      have hown := hI.out.1
      rw [e] at hown
      obtain ⟨A', c', e2, hSr⟩ := Wd.ownR_form hown
      have HSr := Lib.hid hSr
      have HB := Lib.hid hI.out.2
      subst e2
      clear hown e hSr hI
      go_wp2_with fail
      go_ret
      exact ⟨A', _, c', rfl, HSr.out, HB.out⟩

set_option maxHeartbeats 1000000 in
theorem refSame_any (A B : Option Addr) (n m c d : Nat) (r s : Rn.Rs) (w : World) (ha : Wd.Sr w A n c r) (hb : Wd.Sr w B m d s) :
    Calls Try.prog 10 #[.slice A n c, .slice B m d] w fun e w' => e = .returned (.bool (decide (r = s))) ∧ ∃ q, w' = w.drewN q := by
  have hl1 := ha.len
  have hl2 := hb.len
  have hx := ha.max
  have hy := hb.max
  have hc1 := ha.cap
  have hc2 := hb.cap
  unfold maxLen at hx hy
  have H1 := Lib.hid hl1
  have H2 := Lib.hid hl2
  clear hl1 hl2
  by_cases hl : n = m
  · subst hl
    have hne : ((n : Int) != (n : Int)) = false := by simp
    go_enter Try.func10, Try.ntmps10
    go_wp2_with fail
    go_loopw [5] (fun i wr => ∃ (k q : Nat), i = .int .i64 k ∧ k ≤ n ∧ wr = w.drewN q ∧ Hid (r.take k = s.take k)) (fun i _ => n - (intOf i).toNat)
    case atStart => exact ⟨0, 0, rfl, Nat.zero_le _, rfl, Lib.hid rfl⟩
    case round =>
      obtain ⟨k, q, rfl, hk, rfl, ht⟩ := hrel
      by_cases hlt : k < n
      · obtain ⟨b1, o1, rfl, _, x0, x1⟩ := ha.at_ k hlt
        obtain ⟨b2, o2, rfl, _, y0, y1⟩ := hb.at_ k hlt
        obtain ⟨⟨x, u⟩, hx'⟩ : ∃ p, p = r.getD k (0, 0) := ⟨_, rfl⟩
        obtain ⟨⟨y, v⟩, hy'⟩ : ∃ p, p = s.getD k (0, 0) := ⟨_, rfl⟩
        rw [← hx'] at x0 x1
        rw [← hy'] at y0 y1
        rw [← Nat.add_assoc] at x1 y1
        dsimp only at x0 x1 y0 y1
        have Hx := Lib.hid hx'
        have Hy := Lib.hid hy'
        have i1 : (k : Int) < (n : Int) := by omega
        clear hx' hy'
        by_cases hxy : x = y ∧ u = v
        · obtain ⟨rfl, rfl⟩ := hxy
          go_wp2_with fail
          go_quiet (fail)
          go_wp2_with fail
          go_roundw
          case rel =>
            refine ⟨k + 1, _, by go_num, by omega, rfl, Lib.hid ?_⟩
            rw [Rn.take_next r k (0, 0) (by rw [← H1.out]; exact hlt), Rn.take_next s k (0, 0) (by rw [← H2.out]; exact hlt), ht.out, ← Hx.out, ← Hy.out]
          case measure => simp [intOf]; omega
        · have hno : r ≠ s := fun e => hxy (by
            have h1 := Hx.out
            rw [e, ← Hy.out] at h1
            simpa using h1)
          have Hno := Lib.hid hno
          by_cases h1 : x = y
          · have h2 : ¬ u = v := fun h => hxy ⟨h1, h⟩
            subst h1
            have hq : (u == v) = false := by rw [beq_eq_false_iff_ne]; exact h2
            have hq2 : (u != v) = true := by rw [bne_iff_ne]; exact h2
            clear hxy hno
            go_wp2_with fail
            go_quiet (fail)
            go_wp2_with fail
            go_ret
            exact ⟨by rw [decide_eq_false Hno.out]; rfl, _, World.drewN_drewN _ _ _⟩
          · have hq : (x == y) = false := by rw [beq_eq_false_iff_ne]; exact h1
            have hq2 : (x != y) = true := by rw [bne_iff_ne]; exact h1
            clear hxy hno
            go_wp2_with fail
            go_quiet (fail)
            go_wp2_with fail
            go_ret
            exact ⟨by rw [decide_eq_false Hno.out]; rfl, _, World.drewN_drewN _ _ _⟩
      · go_wp2_with fail
        go_ret
        have h := ht.out
        rw [List.take_of_length_le (by have := H1.out; omega), List.take_of_length_le (by have := H2.out; omega)] at h
        exact ⟨by rw [decide_eq_true h]; rfl, _, rfl⟩
  · have hne : ((n : Int) != (m : Int)) = true := by rw [bne_iff_ne]; omega
    have hno : r ≠ s := fun e => hl (by rw [H1.out, H2.out, e])
    have Hno := Lib.hid hno
    clear hno hl
    go_enter Try.func10, Try.ntmps10
    go_wp2_with fail
    go_ret
    exact ⟨by rw [decide_eq_false Hno.out]; rfl, 0, rfl⟩
theorem refSame_yes (A B : Option Addr) (n m c d : Nat) (r s : Rn.Rs) (w : World) (ha : Wd.Sr w A n c r) (hb : Wd.Sr w B m d s) (h : r = s) :
    Calls Try.prog 10 #[.slice A n c, .slice B m d] w fun e w' => e = .returned (.bool true) ∧ Below w.heap.size w w' :=
  (refSame_any A B n m c d r s w ha hb).mono fun _ _ ⟨he, q, hq⟩ => ⟨by rw [he, decide_eq_true h], by rw [hq]; exact Wd.below_drewN (Below.refl _ _) q⟩

set_option maxHeartbeats 1000000 in
theorem refSums_any (A : Option Addr) (m c : Nat) (l : List Int) (w : World) (hS : Wd.Sl w .i64 A m c l) (hm : m ≤ 1000000) :
    Calls Try.prog 19 #[.slice A m c] w (Wd.Out w .i64 (Rn.sums l)) := by
  obtain ⟨i0, hi, hz0, hz1, hz2⟩ := info_parts info_int
  have hl := hS.len
  have hdl := Rn.sums_len l
  have Hd := Lib.hid (Rn.sums_get l)
  generalize Rn.sums l = d at *
  have Hdl := Lib.hid hdl
  have Hl := Lib.hid hl
  have hcap := hS.cap
  clear hl hdl
  go_enter Try.func19, Try.ntmps19
  go_wp2_with fail
  go_loopw [3, 4, 5] (fun v s i wr => ∃ (k : Nat) (p : Int) (ys : List Int), i = .int .i64 k ∧ k ≤ m ∧ s = .int .i64 p ∧ Hid (p = Rn.prev d k ∧ ys = d.take k) ∧ wr.ownsRow w.heap.size 3 1 v ys.length (ys.map (Value.int .i64)) ∧ Below w.heap.size w wr) (fun _ _ i _ => m - (intOf i).toNat)
  case atStart => exact ⟨0, 0, [], rfl, Nat.zero_le _, rfl, Lib.hid ⟨rfl, rfl⟩, World.ownsRow_nil _ _ _ _, Below.refl _ _⟩
  case round =>
    obtain ⟨k, p, ys, rfl, hk, rfl, hp, hown, hB⟩ := hrel
    by_cases hlt : k < m
    · have hkl : k < l.length := by rw [← Hl.out]; exact hlt
      have hkd : k < d.length := by rw [Hdl.out]; exact hkl
      obtain ⟨b, o, rfl, hbB, hcell0⟩ := hS.rd k hkl
      have hcell := (hB.cell (p := ⟨b, o + k, none⟩) hbB).trans hcell0
      have hd := Hd.out k hkl
      have hnx : Rn.prev d (k + 1) = d.getD k 0 := by unfold Rn.prev; rw [if_neg (by omega)]; rfl
      have htk := Rn.take_next d k 0 hkd
      rw [← hp.out.1] at hd
      rw [← hp.out.2] at htk
      obtain ⟨x, hx⟩ : ∃ x, x = l.getD k 0 := ⟨_, rfl⟩
      rw [← hx] at hcell hd
      rw [Wd.wr64] at hd
      rw [hd] at hnx htk
      have hyl : ys.length ≤ 1000000 := by rw [hp.out.2, List.length_take]; omega
      have Hn := Lib.hid hnx
      have Ht := Lib.hid htk
      have i1 : (k : Int) < (m : Int) := by omega
      have hsz := hB.size
      obtain ⟨wo, rfl⟩ : ∃ wo : World, wo = wr := ⟨_, rfl⟩
      clear hcell0 hd hnx htk hx
      go_wp2_with (at_builtin; refine Wd.wpList_app _ rfl (.tmp 18) (.tmp 20) 22 rfl w.heap.size 3 i0 _ .i64 8 Try.underlying22 hi hz0 hz1 hz2 rfl _ ys rfl (hown.alloc _) (wo.heap.size + 1) _ 1 1 [wrap64 (p + x)] rfl rfl (by simp) (Wd.Rd.lit wo .i64 [wrap64 (p + x)] _ _ rfl) (by simp; omega) (by simp [maxLen]; omega) (by simp; omega) ?_; intro v' w1 hown1 hg1)
      go_roundw
      case rel => exact ⟨k + 1, wrap64 (p + x), ys ++ [wrap64 (p + x)], by go_num, by omega, rfl, Lib.hid ⟨Hn.out.symm, Ht.out.symm⟩, hown1, (hB.alloc hsz _).grown hg1 (by simp; omega) (fun g hg => (hown.lt g hg).1)⟩
      case measure => simp [intOf]; omega
    · go_wp2_with fail
      go_ret
      have e := hp.out.2
      rw [List.take_of_length_le (by have := Hl.out; have := Hdl.out; omega)] at e
      rw [e] at hown
      exact Wd.Out.of_own hown hB
end Rc
end Go.Proofs.Ytejhnmahmnbmkaa
