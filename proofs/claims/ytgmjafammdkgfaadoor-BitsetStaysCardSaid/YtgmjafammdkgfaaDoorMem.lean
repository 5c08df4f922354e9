/- Words on memory, over any program: a row of numbers that is known whole, a variable that a function has captured, an answer of a slice and an error's number, a slice cut at both ends, what make leaves. -/
import Derived.WalkKit
import Derived.Test.YtgmjafammdkgfaaDoorWords
namespace Go.Proofs.YtgmjafammdkgfaaDoor
set_option maxRecDepth 20000
open Go.RowKit
namespace Wd
/-- Block g is a row of the numbers ys, of kind k and type e, that may be written. -/
def Row (w : World) (g : Nat) (k : IntKind) (e : TypeId) (ys : List Int) : Prop := w.heap[g]? = some (.cells (ys.map (Value.int k)).toArray e (0, 0))
/-- Block p is a variable of type e that holds v. -/
def Var (w : World) (p : Nat) (e : TypeId) (v : Value) : Prop := w.heap[p]? = some (.cells #[v] e (0, 0))
section
variable {w w' : World} {g p : Nat} {k : IntKind} {e : TypeId} {ys : List Int} {v u : Value}
theorem Row.lt (h : Row w g k e ys) : g < w.heap.size := lt_of_block h
theorem Row.cell (h : Row w g k e ys) (j : Nat) (hj : j < ys.length) : w.cell? ⟨g, j, none⟩ = some (.int k (ys.getD j 0)) := by
  rw [cell_of_row w g j _ e (0, 0) h]
  simp [List.getD, List.getElem?_eq_getElem hj]
theorem Row.free (h : Row w g k e ys) (j : Nat) : w.frozen? ⟨g, j, none⟩ = false := frozen_of_row w g j _ e h
theorem Row.set (h : Row w g k e ys) (j : Nat) (x : Int) : Row (w.setCell ⟨g, j, none⟩ (.int k x)) g k e (ys.set j x) := by
  unfold Row
  rw [heap_setCell_same w g j _ e _ h]
  simp [List.map_set]
theorem Row.other (h : Row w g k e ys) {a : Addr} (ha : g ≠ a.block) : Row (w.setCell a u) g k e ys := by
  unfold Row
  rw [heap_setCell_other w a g u ha]
  exact h
theorem Row.drew (h : Row w g k e ys) : Row w.drew g k e ys := h
theorem Row.alloc (h : Row w g k e ys) (o : Obj) : Row (w.alloc o) g k e ys := by
  unfold Row
  rw [Below.heap_alloc w o g h.lt]
  exact h
theorem Row.below {B : Nat} (h : Row w g k e ys) (hg : g < B) (hb : Below B w w') : Row w' g k e ys := by
  unfold Row
  rw [hb.block g hg]
  exact h
theorem Row.of_own {base n : Nat} (h : w.ownsRow base e 1 (.slice (some ⟨g, 0, none⟩) n n) n (ys.map (Value.int k))) : Row w g k e ys ∧ base ≤ g ∧ n = ys.length := by
  have hl : n = ys.length := by have := h.1; simpa using this.symm
  rcases h.2 with ⟨h', _⟩ | ⟨g', cap', cur, h', hb, hg, _, _, hs, ht⟩
  · simp at h'
  · simp only [Value.slice.injEq, Option.some.injEq, Addr.mk.injEq, and_true, true_and] at h'
    obtain ⟨rfl, rfl⟩ := h'
    refine ⟨?_, hb, hl⟩
    unfold Row
    rw [hg]
    have : cur = (ys.map (Value.int k)).toArray := by
      rw [← ht, List.take_of_length_le (by simp; omega)]
    rw [this]
theorem Row.sl (h : Row w g k e ys) (n : Nat) (hn : n = ys.length) (hm : n ≤ maxLen) : Sl w k (some ⟨g, 0, none⟩) n n ys :=
  ⟨hn, Nat.le_refl _, hm, by simp, Rd.mk h.lt fun j hj => by rw [Nat.zero_add]; exact h.cell j hj⟩
theorem Var.lt (h : Var w p e v) : p < w.heap.size := lt_of_block h
theorem Var.cell (h : Var w p e v) : w.cell? ⟨p, 0, none⟩ = some v := cell_of_one h
theorem Var.free (h : Var w p e v) : w.frozen? ⟨p, 0, none⟩ = false := free_of_one h
theorem Var.set (h : Var w p e v) : Var (w.setCell ⟨p, 0, none⟩ u) p e u := one_setCell h
theorem Var.other (h : Var w p e v) {a : Addr} (ha : p ≠ a.block) : Var (w.setCell a u) p e v := by
  unfold Var
  rw [heap_setCell_other w a p u ha]
  exact h
theorem Var.alloc (h : Var w p e v) (o : Obj) : Var (w.alloc o) p e v := by
  unfold Var
  rw [Below.heap_alloc w o p h.lt]
  exact h
theorem Var.new (w : World) (e : TypeId) (v : Value) : Var (w.alloc (.cells #[v] e)) w.heap.size e v := heap_alloc_new w _
theorem Var.drew (h : Var w p e v) : Var w.drew p e v := h
end
/-- A call of w ended in w' with a slice of the numbers ys and an error's number, and nothing that was there has turned. -/
def Out2 (w : World) (k : IntKind) (ys : List Int) (er : Int) (e : Ending) (w' : World) : Prop :=
  ∃ A n c, e = .returned (.tuple #[.slice A n c, .int .i64 er]) ∧ Sl w' k A n c ys ∧ Below w.heap.size w w'
theorem Out2.err (w w' : World) (k : IntKind) (er : Int) (h : Below w.heap.size w w') : Out2 w k [] er (.returned (.tuple #[.slice none 0 0, .int .i64 er])) w' := ⟨none, 0, 0, rfl, Sl.none_ _ _, h⟩
/-- The cut 's[lo:hi]'. -/
theorem Sl.mid {w : World} {k : IntKind} {A : Option Addr} {n c : Nat} {ys : List Int} (h : Sl w k A n c ys) (lo hi : Nat) (h1 : lo ≤ hi) (h2 : hi ≤ n) : Sl w k (if c = lo then A else A.map (·.add lo)) (hi - lo) (c - lo) ((ys.drop lo).take (hi - lo)) :=
  (h.cut lo (by omega)).head (hi - lo) (by omega)
theorem Sl.mid' {w : World} {k : IntKind} {A : Option Addr} {n c : Nat} {ys : List Int} (h : Sl w k A n c ys) (lo hi : Nat) (h1 : lo ≤ hi) (h2 : hi ≤ n) (hc : c ≠ lo) : Sl w k (A.map (·.add lo)) (hi - lo) (c - lo) ((ys.drop lo).take (hi - lo)) := by
  have := h.mid lo hi h1 h2
  rwa [if_neg hc] at this
theorem made_zero (k : IntKind) (n : Nat) : (madeCells (Value.int k 0).cells (n * 1)).toList = (List.replicate n (0 : Int)).map (Value.int k) := by
  refine List.ext_getElem (by simp [madeCells]) fun i h1 h2 => ?_
  simp [madeCells, Value.cells, Nat.mod_one]
def lenOf : Value → Nat | .slice _ n _ => n | _ => 0
theorem own_slice {w : World} {B : Nat} {e : TypeId} {k : IntKind} {v : Value} {t : Nat} {xs : List Int} (h : w.ownsRow B e 1 v xs.length (xs.map (Value.int k))) (ht : xs.length = t) : ∃ A c, v = .slice A t c := by
  obtain ⟨_, A, c, rfl, _⟩ := own_form h
  exact ⟨A, c, by rw [ht]⟩
end Wd
end Go.Proofs.YtgmjafammdkgfaaDoor
