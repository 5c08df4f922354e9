/- A slice of names in memory. -/
import Derived.Test.YthangnhccbnfbaaDkRead
namespace Go.Proofs.Ythangnhccbnfbaa
open Go.RowKit Go.Maps
namespace Dk
/-- The slice value of address A, length n and capacity c holds the names ns. -/
structure Ns (w : World) (A : Option Addr) (n c : Nat) (ns : List ByteArray) : Prop where
  len : n = ns.length
  cap : n ≤ c
  max : c ≤ maxLen
  nil : A = none → c = 0
  rd : ∀ j, j < ns.length → ∃ b, A = some ⟨b, 0, none⟩ ∧ b < w.heap.size ∧ w.cell? ⟨b, j, none⟩ = some (.string (ns.getD j ByteArray.empty))
section
variable {w w' : World} {A : Option Addr} {n c : Nat} {ns : List ByteArray}
theorem Ns.of_own {base : Nat} {e : TypeId} {v : Value} {n : Nat} (h : w.ownsRow base e 1 v n (ns.map Value.string)) : ∃ A c, v = .slice A ns.length c ∧ Ns w A ns.length c ns ∧ ∀ a, A = some a → base ≤ a.block := by
  have hl : n = ns.length := by have := h.1; simpa using this.symm
  subst hl
  rcases h.2 with ⟨rfl, h0⟩ | ⟨g, cap, cur, rfl, hb, hg, h1, h2, h3, h4⟩
  · have : ns = [] := List.eq_nil_of_length_eq_zero h0
    subst this
    exact ⟨none, 0, rfl, ⟨rfl, by simp, by simp [maxLen], fun _ => rfl, fun j hj => by simp at hj⟩, fun a ha => by cases ha⟩
  · refine ⟨_, _, rfl, ⟨rfl, h1, h2, by simp, fun j hj => ⟨g, rfl, (Array.getElem?_eq_some_iff.1 hg).1, ?_⟩⟩, fun a ha => by cases ha; exact hb⟩
    have := h.cellAt (g := g) (cap := cap) j (by omega)
    rw [this]
    simp [List.getD, List.getElem?_eq_getElem hj]
theorem Ns.mv {G : Nat → Prop} (h : Ns w A n c ns) (hA : ∀ a, A = some a → ¬ G a.block) (m : Wd.Mv G w w') : Ns w' A n c ns := by
  refine ⟨h.len, h.cap, h.max, h.nil, fun j hj => ?_⟩
  obtain ⟨b, e, hlt, hc⟩ := h.rd j hj
  refine ⟨b, e, Nat.lt_of_lt_of_le hlt m.size, ?_⟩
  rw [← hc]
  exact World.cell?_of_block (a := ⟨b, j, none⟩) (m.keep b hlt (hA _ e))
theorem Ns.below (h : Ns w A n c ns) (hb : Below w.heap.size w w') : Ns w' A n c ns := by
  refine ⟨h.len, h.cap, h.max, h.nil, fun j hj => ?_⟩
  obtain ⟨b, e, hlt, hc⟩ := h.rd j hj
  exact ⟨b, e, Nat.lt_of_lt_of_le hlt hb.size, (hb.cell (p := ⟨b, j, none⟩) hlt).trans hc⟩
end
end Dk
end Go.Proofs.Ythangnhccbnfbaa
