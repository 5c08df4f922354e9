/- Words on memory, over any program: a block that is known whole; a row that is filled place by place; a cut of a slice that begins at a known place. -/
import Derived.WalkKit
import Derived.Test.YtgmjafammdkgfaaDoorMem
namespace Go.Proofs.YtgmjafammdkgfaaDoor
set_option maxRecDepth 20000
open Go.RowKit
namespace Wd
/-- Block g is just the cells cs, of element type t, and may be written. -/
def Bx (w : World) (g : Nat) (t : TypeId) (cs : Array Value) : Prop := w.heap[g]? = some (.cells cs t (0, 0))
section
variable {w w' : World} {g : Nat} {t : TypeId} {cs : Array Value}
theorem Bx.lt (h : Bx w g t cs) : g < w.heap.size := lt_of_block h
theorem Bx.cell (h : Bx w g t cs) (j : Nat) : w.cell? ⟨g, j, none⟩ = cs[j]? := cell_of_row w g j cs t (0, 0) h
theorem Bx.free (h : Bx w g t cs) (j : Nat) : w.frozen? ⟨g, j, none⟩ = false := frozen_of_row w g j cs t h
theorem Bx.new (w : World) (t : TypeId) (cs : Array Value) : Bx (w.alloc (.cells cs t)) w.heap.size t cs := heap_alloc_new w _
theorem Bx.alloc (h : Bx w g t cs) (o : Obj) : Bx (w.alloc o) g t cs := by
  unfold Bx
  rw [Below.heap_alloc w o g h.lt]
  exact h
theorem Bx.below {B : Nat} (h : Bx w g t cs) (hg : g < B) (hb : Below B w w') : Bx w' g t cs := by
  unfold Bx
  rw [hb.block g hg]
  exact h
theorem Bx.grown {row : Option Nat} (h : Bx w g t cs) (hb : w.grownBy w' row) (hg : some g ≠ row) : Bx w' g t cs := (hb.block g h.lt hg).trans h
/-- A row whose elements are of another type is another block. -/
theorem Bx.apart {base : Nat} {e : TypeId} {size n : Nat} {v : Value} {xs : List Value} (h : Bx w g t cs) (hr : w.ownsRow base e size v n xs) (hne : t ≠ e) : some g ≠ v.ownBlock := by
  rcases hr.2 with ⟨rfl, _⟩ | ⟨g', cap, cur, rfl, _, hg, _⟩
  · simp [Value.ownBlock]
  · intro he
    have : g = g' := by simpa [Value.ownBlock] using he
    subst this
    unfold Bx at h
    rw [h] at hg
    simp only [Option.some.injEq, Obj.cells.injEq] at hg
    exact hne hg.2.1
end

/-- The first k of d, and zeros behind. -/
def fill (d : List Int) (k : Nat) : List Int := d.take k ++ List.replicate (d.length - k) 0
theorem fill_zero (d : List Int) : fill d 0 = List.replicate d.length 0 := by simp [fill]
theorem fill_all (d : List Int) : fill d d.length = d := by simp [fill]
theorem fill_len (d : List Int) (k : Nat) : (fill d k).length = d.length := by simp [fill]; omega
theorem fill_set (d : List Int) (k : Nat) (hk : k < d.length) : (fill d k).set k (d.getD k 0) = fill d (k + 1) := by
  refine List.ext_getElem (by simp [fill_len]) fun i h1 h2 => ?_
  simp only [fill_len, List.length_set] at h1 h2
  rw [List.getElem_set]
  simp only [fill, List.getElem_append, List.length_take, List.getElem_take, List.getElem_replicate]
  by_cases e : k = i
  · subst e
    rw [if_pos rfl, dif_pos (by omega)]
    simp [List.getD, hk]
  · rw [if_neg e]
    by_cases q : i < min k d.length
    · rw [dif_pos q, dif_pos (by omega)]
    · rw [dif_neg q, dif_neg (by omega)]

/-- The cut 's[q:]' of a slice that begins at a known place. -/
theorem Sl.cut_at {w : World} {k : IntKind} {b o n c : Nat} {ys : List Int} (h : Sl w k (some ⟨b, o, none⟩) n c ys) (q : Nat) (hq : q ≤ n) (hc : c ≠ q) : Sl w k (some ⟨b, o + q, none⟩) (n - q) (c - q) (ys.drop q) := by
  have := h.cut q hq
  rw [if_neg hc, Option.map_some, Addr.add_lit] at this
  exact this
end Wd
end Go.Proofs.YtgmjafammdkgfaaDoor
