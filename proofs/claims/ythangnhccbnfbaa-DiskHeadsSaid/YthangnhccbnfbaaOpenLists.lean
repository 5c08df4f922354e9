/- From an argument as the statement reads it to the words of this seat: a slice of slices of bytes; an array of four bytes. -/
import Derived.Test.YthangnhccbnfbaaLists
import Derived.ProofKit
import Derived.OpenShut
import Derived.Deep.Slices
import Derived.Lib.SmallJoins
namespace Go.Proofs.Ythangnhccbnfbaa
open Go.RowKit Go.ChangeShapes Go.WideShapes
namespace Wd
theorem open_sl_cell {H : Type} {enc : TypeId × Value → H} {P : Program} {W : World} {base : Nat} {spare : Nat → Bool} {held : Bool} {t e : TypeId} {k : IntKind} {fuel : Nat} {v : Value} {x : DataW H × List MemPlace}
    (ht : P.underlying t = some (.slice e)) (he : P.underlying e = some (.int k)) (hc : P.cellsOf e = 1) (hf : DataW.trod enc P W base spare held fuel t [v] = some x) :
    ∃ A n c xs, v = .slice A n c ∧ Sl W k A n c xs ∧ Fits k xs := by
  rcases open_ints ht he hc hf with ⟨hcs, _⟩ | ⟨a, n, c, zs, hcs, _, hl, hm, hz, _, hcell, hwz⟩
  · simp only [List.cons.injEq, and_true] at hcs
    exact ⟨none, 0, 0, [], hcs, Sl.none_ _ _, fun x hx => by simp at hx⟩
  · simp only [List.cons.injEq, and_true] at hcs
    have hlz : n ≤ zs.length := by rw [hz]; split <;> omega
    refine ⟨_, _, _, zs.take n, hcs, ⟨by simp [hlz], hl, hm, by simp, ?_⟩, fun y hy => hwz y (List.mem_of_mem_take hy)⟩
    refine Rd.take (fun j hj => ?_) n
    obtain ⟨b, o, rfl, h1⟩ := ints_at hcell (by omega)
    have h2 := h1 j hj
    exact ⟨b, o, rfl, World.block_lt_of_cell? W ⟨b, o + j, none⟩ h2, h2⟩
theorem open_ss {H : Type} {enc : TypeId × Value → H} {P : Program} {W : World} {r : Reach} {base0 base : Nat} {spare : Nat → Bool} {held : Bool} {t e e' : TypeId} {v : Value} {d : DataW H} {ps : List MemPlace}
    (ht : P.underlying t = some (.slice e)) (he : P.underlying e = some (.slice e')) (he' : P.underlying e' = some (.int .u8)) (hc : P.cellsOf e = 1) (hc' : P.cellsOf e' = 1) (hok : Value.okWide P W r base0 t v) (h : DataW.Trod enc P W base spare held t v d ps) :
    ∃ A n c ys, v = .slice A n c ∧ Ss W A n c ys ∧ ∀ y, y ∈ ys → Fits .u8 y := by
  obtain ⟨A, n, c, rfl⟩ := okWide_slice ht hok
  obtain ⟨fuel, hf⟩ := h
  rcases Go.Deep.open_slice1 ht hc hf with ⟨hcs, _⟩ | ⟨a, len, cap, m, k, V, D, Pl, hcs, _, hl, hm, hmm, _, hx⟩
  · simp [Value.cells] at hcs
    obtain ⟨rfl, rfl, rfl⟩ := hcs
    exact ⟨none, 0, 0, [], rfl, Ss.none_ _, fun y hy => by simp at hy⟩
  · simp [Value.cells] at hcs
    obtain ⟨rfl, rfl, rfl⟩ := hcs
    have hnm : n ≤ m := by rw [hmm]; split <;> omega
    obtain ⟨Y, hY⟩ := Go.Deep.choose_lt (α := List Int) (n := n) (p := fun i y => ∃ A' n' c', V i = .slice A' n' c' ∧ Sl W .u8 A' n' c' y ∧ Fits .u8 y) (fun i hi => by
      obtain ⟨A', n', c', y, e1, e2, e3⟩ := open_sl_cell he he' hc' (hx i (by omega)).2
      exact ⟨y, A', n', c', e1, e2, e3⟩)
    refine ⟨some a, n, c, (List.range n).map Y, rfl, ⟨by simp, hl, hm, by simp, fun j hj => ?_⟩, fun y hy => ?_⟩
    · simp only [List.length_map, List.length_range] at hj
      obtain ⟨A', n', c', e1, e2, _⟩ := hY j hj
      obtain ⟨b, off, spot⟩ := a
      have h1 := (hx j (by omega)).1
      have hs : spot = none := by simpa [Addr.add] using World.cell?_spot (hx 0 (by omega)).1
      subst hs
      rw [Addr.add_lit, e1] at h1
      refine ⟨b, off, A', n', c', rfl, World.block_lt_of_cell? W ⟨b, off + j, none⟩ h1, h1, ?_⟩
      rwa [show ((List.range n).map Y).getD j [] = Y j by simp [List.getD, hj]]
    · simp only [List.mem_map, List.mem_range] at hy
      obtain ⟨i, hi, rfl⟩ := hy
      obtain ⟨_, _, _, _, _, h3⟩ := hY i hi
      exact h3
theorem open_arr4 {H : Type} {enc : TypeId × Value → H} {P : Program} {W : World} {r : Reach} {base0 base : Nat} {spare : Nat → Bool} {held : Bool} {t e : TypeId} {v : Value} {d : DataW H} {ps : List MemPlace}
    (ht : P.underlying t = some (.array 4 e)) (he : P.underlying e = some (.int .u8)) (hC : P.cellsOf t = 4) (hc : P.cellsOf e = 1) (hok : Value.okWide P W r base0 t v) (h : DataW.Trod enc P W base spare held t v d ps) :
    ∃ x0 x1 x2 x3 : Int, v = .agg #[.int .u8 x0, .int .u8 x1, .int .u8 x2, .int .u8 x3] ∧ Fits .u8 [x0, x1, x2, x3] := by
  have hv : ∃ cs, v = .agg cs ∧ cs.size = 4 := by
    simp only [Value.okWide, ht] at hok
    cases v <;> simp_all
  obtain ⟨cs, rfl, hs⟩ := hv
  obtain ⟨c0, c1, c2, c3, rfl⟩ := Go.Joins.array4 hs
  obtain ⟨fuel, hf⟩ := h
  obtain ⟨xs, m, _, _, _, hl, hx⟩ := DataW.trod_array ht hf
  rw [hc] at hx
  have get : ∀ i, i < 4 → ∃ y, xs[i]? = some y := fun i hi => ⟨_, List.getElem?_eq_getElem (by omega)⟩
  obtain ⟨y0, g0⟩ := get 0 (by omega)
  obtain ⟨y1, g1⟩ := get 1 (by omega)
  obtain ⟨y2, g2⟩ := get 2 (by omega)
  obtain ⟨y3, g3⟩ := get 3 (by omega)
  have h0 := hx 0 (by omega)
  have h1 := hx 1 (by omega)
  have h2 := hx 2 (by omega)
  have h3 := hx 3 (by omega)
  rw [g0] at h0
  rw [g1] at h1
  rw [g2] at h2
  rw [g3] at h3
  simp [Value.cells] at h0 h1 h2 h3
  obtain ⟨x0, e0, _, f0⟩ := DataW.trod_int he h0
  obtain ⟨x1, e1, _, f1⟩ := DataW.trod_int he h1
  obtain ⟨x2, e2, _, f2⟩ := DataW.trod_int he h2
  obtain ⟨x3, e3, _, f3⟩ := DataW.trod_int he h3
  simp only [List.cons.injEq, and_true] at e0 e1 e2 e3
  subst e0 e1 e2 e3
  refine ⟨x0, x1, x2, x3, rfl, fun x hx => ?_⟩
  simp only [List.mem_cons, List.not_mem_nil, or_false] at hx
  rcases hx with rfl | rfl | rfl | rfl <;> assumption
end Wd
end Go.Proofs.Ythangnhccbnfbaa
