/- From an argument as the statement reads it to the words of this seat: a slice of integers. -/
import Derived.Test.YtgmjafammdkgfaaDoorWords
import Derived.ProofKit
import Derived.OpenShut
namespace Go.Proofs.YtgmjafammdkgfaaDoor
set_option maxRecDepth 20000
open Go.RowKit Go.ChangeShapes Go.WideShapes
namespace Wd
theorem open_sl {H : Type} {enc : TypeId × Value → H} {P : Program} {W : World} {r : Reach} {base0 base : Nat} {spare : Nat → Bool} {held : Bool} {t e : TypeId} {k : IntKind} {v : Value} {d : DataW H} {ps : List MemPlace}
    (ht : P.underlying t = some (.slice e)) (he : P.underlying e = some (.int k)) (hc : P.cellsOf e = 1) (hok : Value.okWide P W r base0 t v) (h : DataW.Trod enc P W base spare held t v d ps) :
    ∃ A n c xs, v = .slice A n c ∧ Sl W k A n c xs ∧ Fits k xs := by
  obtain ⟨A, n, c, rfl⟩ := okWide_slice ht hok
  obtain ⟨fuel, hf⟩ := h
  rcases open_ints ht he hc hf with ⟨hcs, _⟩ | ⟨x, l, cc, zs, hcs, _, hl, hm, hz, _, hcell, hwz⟩
  · simp [Value.cells] at hcs
    obtain ⟨rfl, rfl, rfl⟩ := hcs
    exact ⟨none, 0, 0, [], rfl, Sl.none_ _ _, fun x hx => by simp at hx⟩
  · simp [Value.cells] at hcs
    obtain ⟨rfl, rfl, rfl⟩ := hcs
    have hlz : n ≤ zs.length := by rw [hz]; split <;> omega
    refine ⟨_, _, _, zs.take n, rfl, ⟨by simp [hlz], hl, hm, by simp, ?_⟩, fun y hy => hwz y (List.mem_of_mem_take hy)⟩
    refine Rd.take (fun j hj => ?_) n
    obtain ⟨b, o, rfl, h1⟩ := ints_at hcell (by omega)
    have h2 := h1 j hj
    exact ⟨b, o, rfl, World.block_lt_of_cell? W ⟨b, o + j, none⟩ h2, h2⟩
end Wd
end Go.Proofs.YtgmjafammdkgfaaDoor
