/- The landed package dict does what the statements' walks ask of a dictionary. -/
import Derived.Test.YtiokajaadmfohaaDtAdd
import Derived.Test.YtiokajaadmfohaaDtSorted
namespace Go.Proofs.Ytiokajaadmfohaa
open Go.RowKit
namespace Dt
open Dc Dx
theorem ifc : Ifc D where
  lt := fun h => by obtain ⟨m, v, h⟩ := h; exact h.bd
  keep := fun h hs hk => by obtain ⟨m, v, h⟩ := h; exact ⟨m, v, h.at_ hs hk⟩
  new_ := fun k w => new_any k w
  add_ := fun v h hd ho hv => by obtain ⟨m, r, h⟩ := h; exact add_any v h hd ho hv
  find_ := fun v h hd ho hv => by obtain ⟨m, r, h⟩ := h; exact find_any v h hd ho hv
  at_ := fun i h _ ho => by obtain ⟨m, r, h⟩ := h; exact at_any i h ho
  len_ := fun h _ => by obtain ⟨m, r, h⟩ := h; exact (len_any h).mono fun _ _ q => ⟨q.1, by rw [q.2]; exact Below.refl _ _⟩
  sorted_ := fun h hd ho => by obtain ⟨m, r, h⟩ := h; exact sorted_any h hd ho
end Dt
end Go.Proofs.Ytiokajaadmfohaa
