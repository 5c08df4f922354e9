/- From an argument as the statement reads it to the words of this seat: a slice of structs of two integers. -/
import Derived.Test.YtejhnmahmnbmkaaRunWords
import Derived.ProofKit
import Derived.OpenShut
import Derived.Deep.SlicePairs
namespace Go.Proofs.Ytejhnmahmnbmkaa
open Go.RowKit Go.ChangeShapes Go.WideShapes
namespace Wd
theorem open_sr {H : Type} {enc : TypeId × Value → H} {P : Program} {W : World} {r : Reach} {base0 base : Nat} {spare : Nat → Bool} {held : Bool} {t e : TypeId} {f0 f1 : Field} {v : Value} {d : DataW H} {ps : List MemPlace}
    (ht : P.underlying t = some (.slice e)) (he : P.underlying e = some (.struct #[f0, f1])) (ce : P.cellsOf e = 2) (o0 : f0.offset = 0) (o1 : f1.offset = 1) (c0 : P.cellsOf f0.type = 1) (c1 : P.cellsOf f1.type = 1)
    (q0 : P.underlying f0.type = some (.int .i64)) (q1 : P.underlying f1.type = some (.int .i64)) (hok : Value.okWide P W r base0 t v) (h : DataW.Trod enc P W base spare held t v d ps) :
    ∃ A n c rs, v = .slice A n c ∧ Sr W A n c rs := by
  obtain ⟨A, n, c, rfl⟩ := okWide_slice ht hok
  obtain ⟨fuel, hf⟩ := h
  rcases Go.Deep.open_slice_pairs ht he ce o0 o1 c0 c1 hf with ⟨hcs, _⟩ | ⟨a, len, cap, m, k, V0, V1, D0, D1, P0, P1, hcs, _, hl, hm, hmm, _, hc⟩
  · simp [Value.cells] at hcs
    obtain ⟨rfl, rfl, rfl⟩ := hcs
    exact ⟨none, 0, 0, [], rfl, Sr.none_ _⟩
  · simp [Value.cells] at hcs
    obtain ⟨rfl, rfl, rfl⟩ := hcs
    have hnm : n ≤ m := by rw [hmm]; split <;> omega
    refine ⟨some a, n, c, (List.range n).map fun i => (intOf (V0 i), intOf (V1 i)), rfl, ⟨by simp, hl, hm, by simp, ?_⟩⟩
    intro j hj
    rw [cellsR_len, List.length_map, List.length_range] at hj
    have hgd : ∀ i, i < n → ((List.range n).map fun i => (intOf (V0 i), intOf (V1 i))).getD i (0, 0) = (intOf (V0 i), intOf (V1 i)) := fun i hi => by simp [List.getD, hi]
    obtain ⟨b, off, spot⟩ := a
    have hs : spot = none := by
      obtain ⟨h1, _⟩ := hc 0 (by omega)
      simpa [Addr.add] using World.cell?_spot h1
    subst hs
    rcases Nat.mod_two_eq_zero_or_one j with h2 | h2
    · obtain ⟨g1, _, g3, _⟩ := hc (j / 2) (by omega)
      obtain ⟨x, e1, _, _⟩ := DataW.trod_int q0 g3
      simp only [List.cons.injEq, and_true] at e1
      rw [e1, Addr.add_lit, show j / 2 * 2 = j by omega] at g1
      have e2 := (cellsR_get ((List.range n).map fun i => (intOf (V0 i), intOf (V1 i))) (j / 2) (by simp; omega)).1
      rw [hgd _ (by omega), show j / 2 * 2 = j by omega, e1] at e2
      refine ⟨b, off, rfl, World.block_lt_of_cell? W ⟨b, off + j, none⟩ g1, ?_⟩
      rw [e2]
      exact g1
    · obtain ⟨_, g2, _, g4⟩ := hc (j / 2) (by omega)
      obtain ⟨x, e1, _, _⟩ := DataW.trod_int q1 g4
      simp only [List.cons.injEq, and_true] at e1
      rw [e1, Addr.add_lit, show j / 2 * 2 + 1 = j by omega] at g2
      have e2 := (cellsR_get ((List.range n).map fun i => (intOf (V0 i), intOf (V1 i))) (j / 2) (by simp; omega)).2
      rw [hgd _ (by omega), show j / 2 * 2 + 1 = j by omega, e1] at e2
      refine ⟨b, off, rfl, World.block_lt_of_cell? W ⟨b, off + j, none⟩ g2, ?_⟩
      rw [e2]
      exact g2
end Wd
end Go.Proofs.Ytejhnmahmnbmkaa
