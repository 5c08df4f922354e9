/- Words on memory, over any program: values that are slices of bytes, of whomever; a store into a row of the call's own. -/
import Derived.Test.YtahocgmaeokoaaaLists
import Derived.Deep.Slices
namespace Go.Proofs.Ytahocgmaeokoaaa
open Go.RowKit
namespace Wd

/-- The values us are slices that hold the bytes ys. -/
def Gs (w : World) (us : List Value) (ys : List (List Int)) : Prop :=
  us.length = ys.length ∧ ∀ j, j < ys.length → ∃ A n c, us[j]? = some (.slice A n c) ∧ Sl w .u8 A n c (ys.getD j [])
theorem Gs.below {w w' : World} {us : List Value} {ys : List (List Int)} (h : Gs w us ys) (hb : Below w.heap.size w w') : Gs w' us ys :=
  ⟨h.1, fun j hj => by
    obtain ⟨A, n, c, e, hs⟩ := h.2 j hj
    exact ⟨A, n, c, e, hs.below hb⟩⟩
theorem Gs.app {w : World} {us vs : List Value} {ys zs : List (List Int)} (h : Gs w us ys) (k : Gs w vs zs) : Gs w (us ++ vs) (ys ++ zs) := by
  refine ⟨by rw [List.length_append, List.length_append, h.1, k.1], fun j hj => ?_⟩
  rw [List.length_append] at hj
  by_cases q : j < ys.length
  · obtain ⟨A, n, c, e, hs⟩ := h.2 j q
    refine ⟨A, n, c, by rw [List.getElem?_append_left (by rw [h.1]; exact q)]; exact e, ?_⟩
    rwa [show (ys ++ zs).getD j [] = ys.getD j [] by simp only [List.getD]; rw [List.getElem?_append_left q]]
  · obtain ⟨A, n, c, e, hs⟩ := k.2 (j - ys.length) (by omega)
    refine ⟨A, n, c, by rw [List.getElem?_append_right (by rw [h.1]; omega), h.1]; exact e, ?_⟩
    rwa [show (ys ++ zs).getD j [] = zs.getD (j - ys.length) [] by simp only [List.getD]; rw [List.getElem?_append_right (by omega)]]
theorem Gs.one {w : World} {us : List Value} {ys : List (List Int)} (h : Gs w us ys) : ∀ u ∈ us, u.oneCell' = true := fun u hu => by
  obtain ⟨j, hj, rfl⟩ := List.getElem_of_mem hu
  obtain ⟨A, n, c, e, _⟩ := h.2 j (by rw [← h.1]; exact hj)
  rw [List.getElem?_eq_getElem hj, Option.some.injEq] at e
  rw [e]
  rfl
theorem Ss.gs {w : World} {A : Option Addr} {n c : Nat} {ys : List (List Int)} (h : Ss w A n c ys) : ∃ us, n = us.length ∧ (A = none → us = [] ∧ c = 0) ∧ (∀ ad, A = some ad → ∀ j u, us[j]? = some u → w.cell? (ad.add j) = some u) ∧ Gs w us ys := by
  have hn := h.len
  obtain ⟨V, hV⟩ := Go.Deep.choose_lt (α := Value) (n := n) (p := fun j v => ∃ b o A' n' c', A = some ⟨b, o, none⟩ ∧ w.cell? ⟨b, o + j, none⟩ = some v ∧ v = .slice A' n' c' ∧ Sl w .u8 A' n' c' (ys.getD j [])) (fun j hj => by
    obtain ⟨b, o, A', n', c', e, _, hc, hs⟩ := h.at_ j (by omega)
    exact ⟨_, b, o, A', n', c', e, hc, rfl, hs⟩)
  refine ⟨(List.range n).map V, by simp, fun hA => ?_, fun ad hA j u hu => ?_, by simp [hn], fun j hj => ?_⟩
  · have h0 := h.nil hA
    have : n = 0 := by have := h.cap; omega
    subst this
    exact ⟨rfl, h0⟩
  · have hj : j < n := by
      have := (List.getElem?_eq_some_iff.1 hu).1
      simpa using this
    obtain ⟨b, o, A', n', c', e, hc, hv, _⟩ := hV j hj
    rw [hA] at e
    cases e
    rw [Addr.add_lit, hc]
    simp [hj] at hu
    rw [hu]
  · obtain ⟨b, o, A', n', c', e, hc, hv, hs⟩ := hV j (by omega)
    exact ⟨A', n', c', by simp [show j < n by omega, hv], hs⟩
theorem Ss.of_gs {w : World} {base n : Nat} {e' : TypeId} {v : Value} {us : List Value} {ys : List (List Int)} (h : w.ownsRow base e' 1 v n us) (hs : Gs w us ys) : ∃ A n c, v = .slice A n c ∧ Ss w A n c ys := by
  have hn : n = ys.length := by have := h.1; rw [hs.1] at this; omega
  subst hn
  rcases h.2 with ⟨rfl, h0⟩ | ⟨g, cap, cur, rfl, hb, hg, h1, h2, h3, h4⟩
  · obtain rfl := List.eq_nil_of_length_eq_zero h0
    exact ⟨none, 0, 0, rfl, Ss.none_ _⟩
  · refine ⟨_, _, _, rfl, ⟨rfl, h1, h2, by simp, fun j hj => ?_⟩⟩
    obtain ⟨A', n', c', e1, hS⟩ := hs.2 j hj
    refine ⟨g, 0, A', n', c', rfl, (Array.getElem?_eq_some_iff.1 hg).1, ?_, hS⟩
    have := h.cellAt (g := g) (cap := cap) j (by omega)
    rw [Nat.zero_add, this]
    exact e1
/-- A store into a row of the call's own. -/
theorem own_set {w : World} {B n cap g : Nat} {e : TypeId} {k : IntKind} {xs : List Int} (h : w.ownsRow B e 1 (.slice (some ⟨g, 0, none⟩) n cap) n (xs.map (Value.int k))) (j : Nat) (x : Int) :
    (w.setCell ⟨g, j, none⟩ (.int k x)).ownsRow B e 1 (.slice (some ⟨g, 0, none⟩) n cap) n ((xs.set j x).map (Value.int k)) := by
  rcases h.2 with ⟨hq, _⟩ | ⟨g', cap', cur, hq, hb, hg, h1, h2, h3, h4⟩
  · cases hq
  · simp only [Value.slice.injEq, Option.some.injEq, Addr.mk.injEq, and_true, true_and] at hq
    obtain ⟨rfl, rfl⟩ := hq
    refine ⟨by simpa using h.1, .inr ⟨g, cap, _, rfl, hb, heap_setCell_same w g j cur e _ hg, h1, h2, by simpa using h3, ?_⟩⟩
    rw [Array.toList_setIfInBounds, List.take_set, h4, List.map_set]
/-- What is known of a row of the call's own, cell by cell. -/
theorem own_cell {w : World} {B n cap g : Nat} {e : TypeId} {k : IntKind} {xs : List Int} (h : w.ownsRow B e 1 (.slice (some ⟨g, 0, none⟩) n cap) n (xs.map (Value.int k))) (j : Nat) (hj : j < xs.length) :
    w.cell? ⟨g, j, none⟩ = some (.int k (xs.getD j 0)) ∧ w.frozen? ⟨g, j, none⟩ = false := by
  have h0 := h
  rcases h.2 with ⟨hq, _⟩ | ⟨g', cap', cur, hq, hb, hg, h1, h2, h3, h4⟩
  · cases hq
  · simp only [Value.slice.injEq, Option.some.injEq, Addr.mk.injEq, and_true, true_and] at hq
    obtain ⟨rfl, rfl⟩ := hq
    refine ⟨?_, frozen_of_row w g j cur e hg⟩
    have hn : n * 1 = xs.length := by have := h.1; simpa using this.symm
    have := h0.cellAt (g := g) (cap := cap) j (by omega)
    rw [this]
    simp [List.getD, List.getElem?_eq_getElem hj]
end Wd
end Go.Proofs.Ytahocgmaeokoaaa
