/- Words on memory for layer 3, over any program: a row that is filled place by place; a slice of runs (two numbers each); three results. -/
import Derived.WalkKit
import Derived.Test.YtejhnmahmnbmkaaMem
import Derived.Test.YtejhnmahmnbmkaaRunMath
namespace Go.Proofs.Ytejhnmahmnbmkaa
open Go.RowKit
namespace Wd
theorem wrap_wr (x : Int) : IntKind.i64.wrap x = Rn.wr x := by
  unfold IntKind.wrap Rn.wr
  simp [IntKind.signed, IntKind.bits]
  omega
theorem wr64 (x : Int) : Rn.wr x = wrap64 x := by unfold Rn.wr wrap64; rfl
theorem fits_of {l : List Int} (h : Fits .i64 l) : Rn.Fits l := fun x hx => by
  have := h x hx
  simpa [Rn.Fit, Lit.wf, show IntKind.i64.min = -9223372036854775808 from rfl] using this
theorem fit_get {l : List Int} (h : Rn.Fits l) (j : Nat) (hj : j < l.length) : -9223372036854775808 ≤ l.getD j 0 ∧ l.getD j 0 ≤ 9223372036854775807 :=
  h _ (by simp [List.getD, hj])

/-- Block g is just the cells cs, of element type t, and may be written. -/
def Bx (w : World) (g : Nat) (t : TypeId) (cs : Array Value) : Prop := w.heap[g]? = some (.cells cs t (0, 0))
section
variable {w w' : World} {g : Nat} {t : TypeId} {cs : Array Value}
theorem Bx.lt (h : Bx w g t cs) : g < w.heap.size := lt_of_block h
theorem Bx.cell (h : Bx w g t cs) (j : Nat) : w.cell? ⟨g, j, none⟩ = cs[j]? := cell_of_row w g j cs t (0, 0) h
theorem Bx.free (h : Bx w g t cs) (j : Nat) : w.frozen? ⟨g, j, none⟩ = false := frozen_of_row w g j cs t h
theorem Bx.new (w : World) (t : TypeId) (cs : Array Value) : Bx (w.alloc (.cells cs t)) w.heap.size t cs := heap_alloc_new w _
theorem Bx.alloc (h : Bx w g t cs) (o : Obj) : Bx (w.alloc o) g t cs := by
  unfold Bx
  rw [Below.heap_alloc w o g h.lt]
  exact h
theorem Bx.below {B : Nat} (h : Bx w g t cs) (hg : g < B) (hb : Below B w w') : Bx w' g t cs := by
  unfold Bx
  rw [hb.block g hg]
  exact h
theorem Bx.grown {row : Option Nat} (h : Bx w g t cs) (hb : w.grownBy w' row) (hg : some g ≠ row) : Bx w' g t cs := (hb.block g h.lt hg).trans h
/-- A row whose elements are of another type is another block. -/
theorem Bx.apart {base : Nat} {e : TypeId} {size n : Nat} {v : Value} {xs : List Value} (h : Bx w g t cs) (hr : w.ownsRow base e size v n xs) (hne : t ≠ e) : some g ≠ v.ownBlock := by
  rcases hr.2 with ⟨rfl, _⟩ | ⟨g', cap, cur, rfl, _, hg, _⟩
  · simp [Value.ownBlock]
  · intro he
    have : g = g' := by simpa [Value.ownBlock] using he
    subst this
    unfold Bx at h
    rw [h] at hg
    simp only [Option.some.injEq, Obj.cells.injEq] at hg
    exact hne hg.2.1
end

/-- The first k of d, and zeros behind. -/
def fill (d : List Int) (k : Nat) : List Int := d.take k ++ List.replicate (d.length - k) 0
theorem fill_zero (d : List Int) : fill d 0 = List.replicate d.length 0 := by simp [fill]
theorem fill_all (d : List Int) : fill d d.length = d := by simp [fill]
theorem fill_len (d : List Int) (k : Nat) : (fill d k).length = d.length := by simp [fill]; omega
theorem fill_set (d : List Int) (k : Nat) (hk : k < d.length) : (fill d k).set k (d.getD k 0) = fill d (k + 1) := by
  refine List.ext_getElem (by simp [fill_len]) fun i h1 h2 => ?_
  simp only [fill_len, List.length_set] at h1 h2
  rw [List.getElem_set]
  simp only [fill, List.getElem_append, List.length_take, List.getElem_take, List.getElem_replicate]
  by_cases e : k = i
  · subst e
    rw [if_pos rfl, dif_pos (by omega)]
    simp [List.getD, hk]
  · rw [if_neg e]
    by_cases q : i < min k d.length
    · rw [dif_pos q, dif_pos (by omega)]
    · rw [dif_neg q, dif_neg (by omega)]

/-- The cut 's[q:]' of a slice that begins at a known place. -/
theorem Sl.cut_at {w : World} {k : IntKind} {b o n c : Nat} {ys : List Int} (h : Sl w k (some ⟨b, o, none⟩) n c ys) (q : Nat) (hq : q ≤ n) (hc : c ≠ q) : Sl w k (some ⟨b, o + q, none⟩) (n - q) (c - q) (ys.drop q) := by
  have := h.cut q hq
  rw [if_neg hc, Option.map_some, Addr.add_lit] at this
  exact this
/-- Three results: a slice of the numbers ys, how many bytes, an error's number; nothing that was there has turned. -/
def Out3 (w : World) (ys : List Int) (n er : Int) (e : Ending) (w' : World) : Prop :=
  ∃ A m c, e = .returned (.tuple #[.slice A m c, .int .i64 n, .int .i64 er]) ∧ Sl w' .i64 A m c ys ∧ Below w.heap.size w w'

/-! ### Runs in memory: the value and the count of each, one behind the other -/
def cellsR (r : Rn.Rs) : List Int := r.flatMap fun p => [p.1, p.2]
theorem cellsR_len (r : Rn.Rs) : (cellsR r).length = r.length * 2 := by
  induction r with
  | nil => rfl
  | cons p r ih => simp [cellsR] at ih ⊢; omega
theorem cellsR_app (r s : Rn.Rs) : cellsR (r ++ s) = cellsR r ++ cellsR s := by simp [cellsR]
theorem cellsR_get (r : Rn.Rs) : ∀ j, j < r.length → (cellsR r).getD (j * 2) 0 = (r.getD j (0, 0)).1 ∧ (cellsR r).getD (j * 2 + 1) 0 = (r.getD j (0, 0)).2 := by
  induction r with
  | nil => intro j hj; simp at hj
  | cons p r ih =>
    intro j hj
    have e : cellsR (p :: r) = p.1 :: p.2 :: cellsR r := rfl
    cases j with
    | zero => simp [e]
    | succ j =>
      simp only [List.length_cons] at hj
      have h := ih j (by omega)
      rw [e, show (j + 1) * 2 = j * 2 + 1 + 1 by omega, show j * 2 + 1 + 1 + 1 = (j * 2 + 1) + 1 + 1 by omega]
      simp only [List.getD_cons_succ]
      exact h
theorem cellsR_inj : ∀ {r s : Rn.Rs}, cellsR r = cellsR s → r = s
  | [], [], _ => rfl
  | [], _ :: _, h => by simp [cellsR] at h
  | _ :: _, [], h => by simp [cellsR] at h
  | p :: r, q :: s, h => by
    have e1 : cellsR (p :: r) = p.1 :: p.2 :: cellsR r := rfl
    have e2 : cellsR (q :: s) = q.1 :: q.2 :: cellsR s := rfl
    rw [e1, e2] at h
    simp only [List.cons.injEq] at h
    rw [cellsR_inj h.2.2]
    congr 1
    exact Prod.ext h.1 h.2.1
/-- The slice value of address A, length n and capacity c holds the runs r. -/
structure Sr (w : World) (A : Option Addr) (n c : Nat) (r : Rn.Rs) : Prop where
  len : n = r.length
  cap : n ≤ c
  max : c ≤ maxLen
  nil : A = none → c = 0
  rd : Rd w w.heap.size .i64 A (cellsR r)
theorem Sr.below {w w' : World} {A : Option Addr} {n c : Nat} {r : Rn.Rs} (h : Sr w A n c r) (hb : Below w.heap.size w w') : Sr w' A n c r :=
  ⟨h.len, h.cap, h.max, h.nil, (h.rd.below hb).up hb.size⟩
theorem Sr.none_ (w : World) : Sr w none 0 0 [] := ⟨rfl, Nat.le_refl _, Nat.zero_le _, fun _ => rfl, Rd.nil⟩
/-- The two cells of element j. -/
theorem Sr.at_ {w : World} {A : Option Addr} {n c : Nat} {r : Rn.Rs} (h : Sr w A n c r) (j : Nat) (hj : j < n) :
    ∃ b o, A = some ⟨b, o, none⟩ ∧ b < w.heap.size ∧ w.cell? ⟨b, o + j * 2, none⟩ = some (.int .i64 (r.getD j (0, 0)).1) ∧ w.cell? ⟨b, o + (j * 2 + 1), none⟩ = some (.int .i64 (r.getD j (0, 0)).2) := by
  have hl := h.len
  have h0 : 0 < (cellsR r).length := by rw [cellsR_len]; omega
  obtain ⟨b, o, e, hb, hc⟩ := h.rd.some_ h0
  obtain ⟨e1, e2⟩ := cellsR_get r j (by omega)
  have h1 := hc (j * 2) (by rw [cellsR_len]; omega)
  have h2 := hc (j * 2 + 1) (by rw [cellsR_len]; omega)
  rw [e1] at h1
  rw [e2] at h2
  exact ⟨b, o, e, hb, h1, h2⟩
/-- A call of w ended in w' with a slice of the runs r, and nothing that was there has turned. -/
def OutR (w : World) (r : Rn.Rs) (e : Ending) (w' : World) : Prop :=
  ∃ A n c, e = .returned (.slice A n c) ∧ Sr w' A n c r ∧ Below w.heap.size w w'
/-- What an append of runs has left. -/
theorem ownR_form {w : World} {base : Nat} {e : TypeId} {v : Value} {n : Nat} {r : Rn.Rs} (h : w.ownsRow base e 2 v n ((cellsR r).map (Value.int .i64))) : ∃ A c, v = .slice A r.length c ∧ Sr w A r.length c r := by
  have hl : n = r.length := by have := h.1; simp [cellsR_len] at this; omega
  subst hl
  rcases h.2 with ⟨rfl, h0⟩ | ⟨g, cap, cur, rfl, hb, hg, h1, h2, h3, h4⟩
  · have : r = [] := List.eq_nil_of_length_eq_zero h0
    subst this
    exact ⟨none, 0, rfl, Sr.none_ _⟩
  · refine ⟨_, _, rfl, ⟨rfl, h1, h2, by simp, Rd.mk (Array.getElem?_eq_some_iff.1 hg).1 fun j hj => ?_⟩⟩
    have := h.cellAt (g := g) (cap := cap) j (by rw [cellsR_len] at hj; simpa [cellsR_len] using hj)
    rw [Nat.zero_add, this]
    simp [List.getD, List.getElem?_eq_getElem hj]
end Wd
end Go.Proofs.Ytejhnmahmnbmkaa
