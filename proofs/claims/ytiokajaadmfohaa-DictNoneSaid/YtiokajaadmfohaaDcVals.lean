/- A block of values that is known whole: what make leaves, a value stored at a place. -/
import Derived.Test.YtiokajaadmfohaaScVals
import Derived.Test.YtiokajaadmfohaaMem
import Derived.Test.YtiokajaadmfohaaBox
namespace Go.Proofs.Ytiokajaadmfohaa
set_option maxRecDepth 20000
open Go.RowKit
namespace Wd
open Va (Vl null)
/-- Block g is just the values L, and may be written. -/
def RowV (w : World) (g : Nat) (L : List Vl) : Prop := Wd.Bx w g 24 (flatV L).toArray
theorem flatV_set : ∀ (L : List Vl) (p : Nat) (v : Vl), p < L.length → ((((flatV L).set (p * 4) (.int .i64 v.kind)).set (p * 4 + 1) (.int .i64 v.i)).set (p * 4 + 2) (.string v.s)).set (p * 4 + 3) (.bool v.b) = flatV (L.set p v)
  | [], _, _, h => by simp at h
  | f :: r, 0, v, _ => by
    show ((((Value.int .i64 f.kind :: .int .i64 f.i :: .string f.s :: .bool f.b :: flatV r).set _ _).set _ _).set _ _).set _ _ = Value.int .i64 v.kind :: .int .i64 v.i :: .string v.s :: .bool v.b :: flatV r
    simp
  | f :: r, p + 1, v, h => by
    have ih := flatV_set r p v (by simpa using h)
    have e : flatV (f :: r) = Value.int .i64 f.kind :: .int .i64 f.i :: .string f.s :: .bool f.b :: flatV r := rfl
    have e2 : flatV ((f :: r).set (p + 1) v) = Value.int .i64 f.kind :: .int .i64 f.i :: .string f.s :: .bool f.b :: flatV (r.set p v) := rfl
    rw [e, e2, ← ih, show (p + 1) * 4 = p * 4 + 1 + 1 + 1 + 1 by omega, show p * 4 + 1 + 1 + 1 + 1 + 1 = p * 4 + 1 + 1 + 1 + 1 + 1 from rfl, show p * 4 + 1 + 1 + 1 + 1 + 2 = p * 4 + 2 + 1 + 1 + 1 + 1 by omega, show p * 4 + 1 + 1 + 1 + 1 + 3 = p * 4 + 3 + 1 + 1 + 1 + 1 by omega]
    simp only [List.set_cons_succ]
section
variable {w w' : World} {g : Nat} {L : List Vl}
theorem RowV.lt (h : RowV w g L) : g < w.heap.size := Wd.Bx.lt h
theorem RowV.below {B : Nat} (h : RowV w g L) (hg : g < B) (hb : Below B w w') : RowV w' g L := Wd.Bx.below h hg hb
theorem RowV.drew (h : RowV w g L) : RowV w.drew g L := h
theorem RowV.other (h : RowV w g L) {a : Addr} {u : Value} (ha : g ≠ a.block) : RowV (w.setCell a u) g L := by
  unfold RowV Bx
  rw [heap_setCell_other w a g u ha]
  exact h
/-- The cells of the p-th, and that they may be written. -/
theorem RowV.four (h : RowV w g L) {p : Nat} (hp : p < L.length) : ∃ x : Vl, (w.cell? ⟨g, p * 4, none⟩ = some (.int .i64 x.kind) ∧ w.cell? ⟨g, p * 4 + 1, none⟩ = some (.int .i64 x.i) ∧ w.cell? ⟨g, p * 4 + 2, none⟩ = some (.string x.s) ∧ w.cell? ⟨g, p * 4 + 3, none⟩ = some (.bool x.b))
    ∧ (w.frozen? ⟨g, p * 4, none⟩ = false ∧ w.frozen? ⟨g, p * 4 + 1, none⟩ = false ∧ w.frozen? ⟨g, p * 4 + 2, none⟩ = false ∧ w.frozen? ⟨g, p * 4 + 3, none⟩ = false) := by
  have c : ∀ i v, (vals (L.getD p default))[i]? = some v → w.cell? ⟨g, p * 4 + i, none⟩ = some v := fun i v hv => (Wd.Bx.cell h (p * 4 + i)).trans (by rw [List.getElem?_toArray]; exact flatV_get L p hp i v hv)
  exact ⟨L.getD p default, ⟨c 0 _ rfl, c 1 _ rfl, c 2 _ rfl, c 3 _ rfl⟩, Wd.Bx.free h _, Wd.Bx.free h _, Wd.Bx.free h _, Wd.Bx.free h _⟩
theorem RowV.set (h : RowV w g L) (p : Nat) (hp : p < L.length) (v : Vl) : RowV ((((w.setCell ⟨g, p * 4, none⟩ (.int .i64 v.kind)).setCell ⟨g, p * 4 + 1, none⟩ (.int .i64 v.i)).setCell ⟨g, p * 4 + 2, none⟩ (.string v.s)).setCell ⟨g, p * 4 + 3, none⟩ (.bool v.b)) g (L.set p v) := by
  have h1 := heap_setCell_same w g (p * 4) _ _ (.int .i64 v.kind) h
  have h2 := heap_setCell_same _ g (p * 4 + 1) _ _ (.int .i64 v.i) h1
  have h3 := heap_setCell_same _ g (p * 4 + 2) _ _ (.string v.s) h2
  have h4 := heap_setCell_same _ g (p * 4 + 3) _ _ (.bool v.b) h3
  unfold RowV Bx
  rw [h4, ← flatV_set L p v hp]
  simp
theorem RowV.of_own {base n : Nat} (h : w.ownsRow base 24 4 (.slice (some ⟨g, 0, none⟩) n n) n (flatV L)) : RowV w g L ∧ base ≤ g ∧ n = L.length := by
  have hl : n = L.length := by have := h.1; rw [flatV_len] at this; omega
  rcases h.2 with ⟨h', _⟩ | ⟨g', cap', cur, h', hb, hg, _, _, hs, ht⟩
  · simp at h'
  · simp only [Value.slice.injEq, Option.some.injEq, Addr.mk.injEq, and_true, true_and] at h'
    obtain ⟨rfl, _, rfl⟩ := h'
    refine ⟨?_, hb, hl⟩
    unfold RowV Bx
    rw [hg]
    have : cur = (flatV L).toArray := by
      rw [← ht, List.take_of_length_le (by simp; omega)]
    rw [this]
theorem RowV.vs (h : RowV w g L) (n : Nat) (hn : n = L.length) (hm : n ≤ maxLen) (h1 : ∀ j, j < L.length → V1 (L.getD j default)) : Vs w (some ⟨g, 0, none⟩) n n L :=
  ⟨hn, Nat.le_refl _, hm, by simp, fun j hj => ⟨g, 0, rfl, h.lt, fun i v hv => by rw [Nat.zero_add]; exact (Wd.Bx.cell h (j * 4 + i)).trans (by rw [List.getElem?_toArray]; exact flatV_get L j hj i v hv), h1 j hj⟩⟩
end
theorem made_null (n : Nat) : (madeCells (Value.agg #[.int .i64 0, .int .i64 0, .string ⟨#[]⟩, .bool false]).cells (n * 4)).toList = flatV (List.replicate n null) := by
  refine List.ext_getElem? fun j => ?_
  by_cases hj : j < n * 4
  · have hk : j / 4 < (List.replicate n null).length := by simp; omega
    have e : (List.replicate n null).getD (j / 4) default = null := by simp [List.getD, show j / 4 < n by omega]
    have hi : j % 4 < 4 := Nat.mod_lt _ (by omega)
    have key : ∀ i, i < 4 → (vals null)[i]? = some ((#[Value.int .i64 0, .int .i64 0, .string ⟨#[]⟩, .bool false] : Array Value)[i]!) := by
      intro i hi
      match i, hi with
      | 0, _ => rfl
      | 1, _ => rfl
      | 2, _ => rfl
      | 3, _ => rfl
    have h2 := flatV_get (List.replicate n null) (j / 4) hk (j % 4) _ (by rw [e]; exact key _ hi)
    rw [show j / 4 * 4 + j % 4 = j by omega] at h2
    rw [h2]
    simp [madeCells, Value.cells, hj]
  · rw [List.getElem?_eq_none (by simp [madeCells]; omega), List.getElem?_eq_none (by rw [flatV_len]; simp; omega)]
end Wd
end Go.Proofs.Ytiokajaadmfohaa
