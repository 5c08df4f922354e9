/- Words on memory: a slice of values (a kind, a number, a text, a truth); from an argument as the statement reads it to a value, and to a slice of such. -/
import Derived.Test.YtiokajaadmfohaaWords
import Derived.Test.YtiokajaadmfohaaVaOrd
import Derived.Test.YtiokajaadmfohaaProg
import Derived.ProofKit
import Derived.OpenShut
import Derived.Deep.Slices
import Derived.Lib.SmallJoins
namespace Go.Proofs.Ytiokajaadmfohaa
set_option maxRecDepth 20000
open Go.RowKit Go.ChangeShapes Go.WideShapes
namespace Wd
open Va (Vl)
instance : Inhabited Vl := ⟨⟨0, 0, ⟨#[]⟩, false⟩⟩
def vals (o : Vl) : List Value := [.int .i64 o.kind, .int .i64 o.i, .string o.s, .bool o.b]
/-- Its numbers are the machine's. -/
structure V1 (o : Vl) : Prop where
  w0 : (Lit.int .i64 o.kind).wf = true
  w1 : (Lit.int .i64 o.i).wf = true
/-- The slice value of address A, length n and capacity c holds the values os. -/
structure Vs (w : World) (A : Option Addr) (n c : Nat) (os : List Vl) : Prop where
  len : n = os.length
  cap : n ≤ c
  max : c ≤ maxLen
  nil : A = none → c = 0
  at_ : ∀ j, j < os.length → ∃ b o, A = some ⟨b, o, none⟩ ∧ b < w.heap.size ∧ (∀ i v, (vals (os.getD j default))[i]? = some v → w.cell? ⟨b, o + (j * 4 + i), none⟩ = some v) ∧ V1 (os.getD j default)
section
variable {w w' : World} {A : Option Addr} {n c : Nat} {os : List Vl} {o : Vl}
theorem Vs.below (h : Vs w A n c os) (hb : Below w.heap.size w w') : Vs w' A n c os :=
  ⟨h.len, h.cap, h.max, h.nil, fun j hj => by
    obtain ⟨b, o, e, hlt, hc, h1⟩ := h.at_ j hj
    exact ⟨b, o, e, Nat.lt_of_lt_of_le hlt hb.size, fun i v hv => (hb.cell (p := ⟨b, o + (j * 4 + i), none⟩) hlt).trans (hc i v hv), h1⟩⟩
theorem Vs.none_ (w : World) : Vs w none 0 0 [] := ⟨rfl, Nat.le_refl _, Nat.zero_le _, fun _ => rfl, fun _ h => by simp at h⟩
/-- The cells of the j-th. -/
theorem Vs.cells (h : Vs w A n c os) {j : Nat} (hj : j < os.length) {o : Vl} (ho : o = os.getD j default) : ∃ b f, A = some ⟨b, f, none⟩ ∧ b < w.heap.size ∧ w.cell? ⟨b, f + j * 4, none⟩ = some (.int .i64 o.kind) ∧ w.cell? ⟨b, f + j * 4 + 1, none⟩ = some (.int .i64 o.i) ∧
    w.cell? ⟨b, f + j * 4 + 2, none⟩ = some (.string o.s) ∧ w.cell? ⟨b, f + j * 4 + 3, none⟩ = some (.bool o.b) ∧ V1 o := by
  subst ho
  obtain ⟨b, f, e, hlt, hc, h1⟩ := h.at_ j hj
  exact ⟨b, f, e, hlt, hc 0 _ rfl, by rw [Nat.add_assoc]; exact hc 1 _ rfl, by rw [Nat.add_assoc]; exact hc 2 _ rfl, by rw [Nat.add_assoc]; exact hc 3 _ rfl, h1⟩
end

section
variable {H : Type} {enc : TypeId × Value → H} {P : Program} {W : World} {r : Reach} {base0 base : Nat} {spare : Nat → Bool} {held : Bool}
/-- The type of a value: its four fields. -/
structure VlT (P : Program) (t : TypeId) (f0 f1 f2 f3 : Field) : Prop where
  u : P.underlying t = some (.struct #[f0, f1, f2, f3])
  c : P.cellsOf t = 4
  o0 : f0.offset = 0
  o1 : f1.offset = 1
  o2 : f2.offset = 2
  o3 : f3.offset = 3
  c0 : P.cellsOf f0.type = 1
  c1 : P.cellsOf f1.type = 1
  c2 : P.cellsOf f2.type = 1
  c3 : P.cellsOf f3.type = 1
  u0 : P.underlying f0.type = some (.int .i64)
  u1 : P.underlying f1.type = some (.int .i64)
  u2 : P.underlying f2.type = some .string
  u3 : P.underlying f3.type = some .bool
theorem open_v1 {t : TypeId} {f0 f1 f2 f3 : Field} (T : VlT P t f0 f1 f2 f3) {fuel : Nat} {cs : List Value} {x : DataW H × List MemPlace} (hl : cs.length = 4) (h : DataW.trod enc P W base spare held fuel t cs = some x) :
    ∃ o : Vl, cs = vals o ∧ V1 o := by
  obtain ⟨xs, k, hk, hxy, _, hxl, hf⟩ := DataW.trod_struct T.u h
  match xs, hxl, cs, hl with
  | [y0, y1, y2, y3], _, [v0, v1, v2, v3], _ =>
    have g0 := hf 0 f0 rfl
    have g1 := hf 1 f1 rfl
    have g2 := hf 2 f2 rfl
    have g3 := hf 3 f3 rfl
    simp [T.o0, T.o1, T.o2, T.o3, T.c0, T.c1, T.c2, T.c3] at g0 g1 g2 g3
    obtain ⟨a0, z0, _, w0⟩ := DataW.trod_int T.u0 g0
    obtain ⟨a1, z1, _, w1⟩ := DataW.trod_int T.u1 g1
    obtain ⟨s, z2, _, _⟩ := DataW.trod_string T.u2 g2
    obtain ⟨b, z3, _⟩ := DataW.trod_bool T.u3 g3
    simp only [List.cons.injEq, and_true] at z0 z1 z2 z3
    subst z0 z1 z2 z3
    exact ⟨⟨a0, a1, s, b⟩, rfl, ⟨w0, w1⟩⟩
theorem open_v {t : TypeId} {f0 f1 f2 f3 : Field} (T : VlT P t f0 f1 f2 f3) {v : Value} {d : DataW H} {ps : List MemPlace} (hok : Value.okWide P W r base0 t v) (h : DataW.Trod enc P W base spare held t v d ps) :
    ∃ k i s b, v = .agg #[.int .i64 k, .int .i64 i, .string s, .bool b] ∧ (Lit.int .i64 k).wf = true ∧ (Lit.int .i64 i).wf = true := by
  obtain ⟨cs, rfl, hsz⟩ := okWide_struct T.u hok
  obtain ⟨fuel, hf⟩ := h
  obtain ⟨⟨k, i, s, b⟩, e, h1⟩ := open_v1 T (by simpa [T.c, Value.cells] using hsz) hf
  refine ⟨k, i, s, b, ?_, h1.w0, h1.w1⟩
  simp only [Value.cells] at e
  have : cs = (vals ⟨k, i, s, b⟩).toArray := by rw [← e]
  rw [this]
  rfl
theorem open_vs {t e : TypeId} {f0 f1 f2 f3 : Field} (ht : P.underlying t = some (.slice e)) (T : VlT P e f0 f1 f2 f3) {v : Value} {d : DataW H} {ps : List MemPlace} (hok : Value.okWide P W r base0 t v) (h : DataW.Trod enc P W base spare held t v d ps) :
    ∃ A n c os, v = .slice A n c ∧ Vs W A n c os := by
  obtain ⟨A, n, c, rfl⟩ := okWide_slice ht hok
  obtain ⟨fuel, hf⟩ := h
  rcases Go.Deep.open_slice ht hf with ⟨hcs, _⟩ | ⟨a, len, cap, m, k, D, Pl, hcs, _, hl, hm, hmm, _, hx⟩
  · simp [Value.cells] at hcs
    obtain ⟨rfl, rfl, rfl⟩ := hcs
    exact ⟨none, 0, 0, [], rfl, Vs.none_ _⟩
  · simp [Value.cells] at hcs
    obtain ⟨rfl, rfl, rfl⟩ := hcs
    have hnm : n ≤ m := by rw [hmm]; split <;> omega
    rw [T.c] at hx
    obtain ⟨Y, hY⟩ := Go.Deep.choose_lt (α := Vl) (n := n) (p := fun i y => (∀ j v, (vals y)[j]? = some v → W.cell? (a.add (i * 4 + j)) = some v) ∧ V1 y) (fun i hi => by
      obtain ⟨cs', h1, h2⟩ := hx i (by omega)
      obtain ⟨_, hlen, hcell⟩ := World.cells?_some h1
      obtain ⟨o, e1, h3⟩ := open_v1 T hlen h2
      refine ⟨o, fun j v hv => ?_, h3⟩
      have hj : j < 4 := by
        have := (List.getElem?_eq_some_iff.1 hv).1
        simpa [vals] using this
      have h4 := hcell j hj
      rw [Go.Deep.add_add, e1, hv] at h4
      exact h4)
    refine ⟨some a, n, c, (List.range n).map Y, rfl, ⟨by simp, hl, hm, by simp, fun j hj => ?_⟩⟩
    simp only [List.length_map, List.length_range] at hj
    have hg : ((List.range n).map Y).getD j default = Y j := by simp [List.getD, hj]
    obtain ⟨h1, h2⟩ := hY j hj
    obtain ⟨b, off, spot⟩ := a
    have hs : spot = none := by simpa [Addr.add] using World.cell?_spot ((hY 0 (by omega)).1 0 _ rfl)
    subst hs
    have h5 := h1 0 _ rfl
    rw [Addr.add_lit] at h5
    refine ⟨b, off, rfl, World.block_lt_of_cell? W ⟨b, off + (j * 4 + 0), none⟩ h5, fun i v hv => ?_, by rw [hg]; exact h2⟩
    rw [hg] at hv
    have := h1 i v hv
    rwa [Addr.add_lit] at this
end
theorem vlT : ∃ f0 f1 f2 f3, VlT Try.prog 24 f0 f1 f2 f3 :=
  ⟨_, _, _, _, ⟨Try.underlying24, by kernel_rfl, rfl, rfl, rfl, rfl, by kernel_rfl, by kernel_rfl, by kernel_rfl, by kernel_rfl,
    Try.underlying3, Try.underlying3, Try.underlying9, Try.underlying4⟩⟩
end Wd
end Go.Proofs.Ytiokajaadmfohaa
