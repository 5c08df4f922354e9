/- Words on memory: a slice of columns (a name, a kind, a truth); from an argument as the statement reads it to a schema. Over any program. The type of a schema, at this program. -/
import Derived.Test.YtdmgjeipkpbojaaDoorWords
import Derived.Test.YtdmgjeipkpbojaaDoorScMath
import Derived.ProofKit
import Derived.OpenShut
import Derived.Deep.Slices
import Derived.Lib.SmallJoins
import Derived.Test.YtdmgjeipkpbojaaDoorProg
namespace Go.Proofs.YtdmgjeipkpbojaaDoor
set_option maxRecDepth 20000
open Go.RowKit Go.ChangeShapes Go.WideShapes
namespace Wd
open Sc (Col Sch)
instance : Inhabited Col := ⟨⟨⟨#[]⟩, 0, false⟩⟩
def colVals (o : Col) : List Value := [.string o.name, .int .i64 o.kind, .bool o.nul]
/-- Its number is the machine's, and its name no longer than any text. -/
structure Col1 (o : Col) : Prop where
  w0 : (Lit.int .i64 o.kind).wf = true
  w1 : o.name.size ≤ maxLen
/-- The slice value of address A, length n and capacity c holds the columns os. -/
structure Cs (w : World) (A : Option Addr) (n c : Nat) (os : List Col) : Prop where
  len : n = os.length
  cap : n ≤ c
  max : c ≤ maxLen
  nil : A = none → c = 0
  at_ : ∀ j, j < os.length → ∃ b o, A = some ⟨b, o, none⟩ ∧ b < w.heap.size ∧ (∀ i v, (colVals (os.getD j default))[i]? = some v → w.cell? ⟨b, o + (j * 3 + i), none⟩ = some v) ∧ Col1 (os.getD j default)
section
variable {w w' : World} {A : Option Addr} {n c : Nat} {os : List Col} {o : Col}
theorem Cs.below (h : Cs w A n c os) (hb : Below w.heap.size w w') : Cs w' A n c os :=
  ⟨h.len, h.cap, h.max, h.nil, fun j hj => by
    obtain ⟨b, o, e, hlt, hc, h1⟩ := h.at_ j hj
    exact ⟨b, o, e, Nat.lt_of_lt_of_le hlt hb.size, fun i v hv => (hb.cell (p := ⟨b, o + (j * 3 + i), none⟩) hlt).trans (hc i v hv), h1⟩⟩
theorem Cs.none_ (w : World) : Cs w none 0 0 [] := ⟨rfl, Nat.le_refl _, Nat.zero_le _, fun _ => rfl, fun _ h => by simp at h⟩
/-- The cells of the j-th. -/
theorem Cs.cells (h : Cs w A n c os) {j : Nat} (hj : j < os.length) {o : Col} (ho : o = os.getD j default) : ∃ b f, A = some ⟨b, f, none⟩ ∧ b < w.heap.size ∧ w.cell? ⟨b, f + j * 3, none⟩ = some (.string o.name) ∧ w.cell? ⟨b, f + j * 3 + 1, none⟩ = some (.int .i64 o.kind) ∧
    w.cell? ⟨b, f + j * 3 + 2, none⟩ = some (.bool o.nul) ∧ Col1 o := by
  subst ho
  obtain ⟨b, f, e, hlt, hc, h1⟩ := h.at_ j hj
  exact ⟨b, f, e, hlt, hc 0 _ rfl, by rw [Nat.add_assoc]; exact hc 1 _ rfl, by rw [Nat.add_assoc]; exact hc 2 _ rfl, h1⟩
end

section
variable {H : Type} {enc : TypeId × Value → H} {P : Program} {W : World} {r : Reach} {base0 base : Nat} {spare : Nat → Bool} {held : Bool}
/-- The type of a column: its three fields. -/
structure ColT (P : Program) (t : TypeId) (f0 f1 f2 : Field) : Prop where
  u : P.underlying t = some (.struct #[f0, f1, f2])
  c : P.cellsOf t = 3
  o0 : f0.offset = 0
  o1 : f1.offset = 1
  o2 : f2.offset = 2
  c0 : P.cellsOf f0.type = 1
  c1 : P.cellsOf f1.type = 1
  c2 : P.cellsOf f2.type = 1
  u0 : P.underlying f0.type = some .string
  u1 : P.underlying f1.type = some (.int .i64)
  u2 : P.underlying f2.type = some .bool
theorem open_col1 {t : TypeId} {f0 f1 f2 : Field} (T : ColT P t f0 f1 f2) {fuel : Nat} {cs : List Value} {x : DataW H × List MemPlace} (hl : cs.length = 3) (h : DataW.trod enc P W base spare held fuel t cs = some x) :
    ∃ o : Col, cs = colVals o ∧ Col1 o := by
  obtain ⟨xs, k, hk, hxy, _, hxl, hf⟩ := DataW.trod_struct T.u h
  match xs, hxl, cs, hl with
  | [y0, y1, y2], _, [v0, v1, v2], _ =>
    have g0 := hf 0 f0 rfl
    have g1 := hf 1 f1 rfl
    have g2 := hf 2 f2 rfl
    simp [T.o0, T.o1, T.o2, T.c0, T.c1, T.c2] at g0 g1 g2
    obtain ⟨s, z0, _, w0⟩ := DataW.trod_string T.u0 g0
    obtain ⟨a1, z1, _, w1⟩ := DataW.trod_int T.u1 g1
    obtain ⟨b, z2, _⟩ := DataW.trod_bool T.u2 g2
    simp only [List.cons.injEq, and_true] at z0 z1 z2
    subst z0 z1 z2
    exact ⟨⟨s, a1, b⟩, rfl, ⟨w1, w0⟩⟩
/-- A slice of columns, off the reading of it. -/
theorem open_cs1 {t e : TypeId} {f0 f1 f2 : Field} (ht : P.underlying t = some (.slice e)) (T : ColT P e f0 f1 f2) {fuel : Nat} {A : Option Addr} {n c : Nat} {x : DataW H × List MemPlace} (hf : DataW.trod enc P W base spare held fuel t [.slice A n c] = some x) :
    ∃ os, Cs W A n c os := by
  rcases Go.Deep.open_slice ht hf with ⟨hcs, _⟩ | ⟨a, len, cap, m, k, D, Pl, hcs, _, hl, hm, hmm, _, hx⟩
  · simp at hcs
    obtain ⟨rfl, rfl, rfl⟩ := hcs
    exact ⟨[], Cs.none_ _⟩
  · simp at hcs
    obtain ⟨rfl, rfl, rfl⟩ := hcs
    have hnm : n ≤ m := by rw [hmm]; split <;> omega
    rw [T.c] at hx
    obtain ⟨Y, hY⟩ := Go.Deep.choose_lt (α := Col) (n := n) (p := fun i y => (∀ j v, (colVals y)[j]? = some v → W.cell? (a.add (i * 3 + j)) = some v) ∧ Col1 y) (fun i hi => by
      obtain ⟨cs', h1, h2⟩ := hx i (by omega)
      obtain ⟨_, hlen, hcell⟩ := World.cells?_some h1
      obtain ⟨o, e1, h3⟩ := open_col1 T hlen h2
      refine ⟨o, fun j v hv => ?_, h3⟩
      have hj : j < 3 := by
        have := (List.getElem?_eq_some_iff.1 hv).1
        simpa [colVals] using this
      have h4 := hcell j hj
      rw [Go.Deep.add_add, e1, hv] at h4
      exact h4)
    refine ⟨(List.range n).map Y, ⟨by simp, hl, hm, by simp, fun j hj => ?_⟩⟩
    simp only [List.length_map, List.length_range] at hj
    have hg : ((List.range n).map Y).getD j default = Y j := by simp [List.getD, hj]
    obtain ⟨h1, h2⟩ := hY j hj
    obtain ⟨b, off, spot⟩ := a
    have hs : spot = none := by simpa [Addr.add] using World.cell?_spot ((hY 0 (by omega)).1 0 _ rfl)
    subst hs
    have h5 := h1 0 _ rfl
    rw [Addr.add_lit] at h5
    refine ⟨b, off, rfl, World.block_lt_of_cell? W ⟨b, off + (j * 3 + 0), none⟩ h5, fun i v hv => ?_, by rw [hg]; exact h2⟩
    rw [hg] at hv
    have := h1 i v hv
    rwa [Addr.add_lit] at this
/-- The type of a schema: its five fields. -/
structure SchT (P : Program) (t : TypeId) (f0 f1 f2 f3 f4 : Field) (e : TypeId) (g0 g1 g2 : Field) : Prop where
  u : P.underlying t = some (.struct #[f0, f1, f2, f3, f4])
  c : P.cellsOf t = 5
  o0 : f0.offset = 0
  o1 : f1.offset = 1
  o2 : f2.offset = 2
  o3 : f3.offset = 3
  o4 : f4.offset = 4
  c0 : P.cellsOf f0.type = 1
  c1 : P.cellsOf f1.type = 1
  c2 : P.cellsOf f2.type = 1
  c3 : P.cellsOf f3.type = 1
  c4 : P.cellsOf f4.type = 1
  u0 : P.underlying f0.type = some (.slice e)
  u1 : P.underlying f1.type = some (.int .i64)
  u2 : P.underlying f2.type = some (.int .i64)
  u3 : P.underlying f3.type = some (.int .i64)
  u4 : P.underlying f4.type = some (.int .i64)
  k : ColT P e g0 g1 g2
theorem trod_slice_one {t e : TypeId} (ht : P.underlying t = some (.slice e)) {fuel : Nat} {v : Value} {x : DataW H × List MemPlace} (h : DataW.trod enc P W base spare held fuel t [v] = some x) : ∃ A n c, v = .slice A n c := by
  rcases Go.Deep.open_slice ht h with ⟨hcs, _⟩ | ⟨a, len, cap, m, k, D, Pl, hcs, _⟩
  · simp only [List.cons.injEq, and_true] at hcs
    exact ⟨_, _, _, hcs⟩
  · simp only [List.cons.injEq, and_true] at hcs
    exact ⟨_, _, _, hcs⟩
/-- A schema's numbers are the machine's. -/
structure Sch1 (s : Sch) : Prop where
  w1 : (Lit.int .i64 s.key).wf = true
  w2 : (Lit.int .i64 s.cmp).wf = true
  w3 : (Lit.int .i64 s.del).wf = true
  w4 : (Lit.int .i64 s.sort).wf = true
theorem open_sch {t : TypeId} {f0 f1 f2 f3 f4 : Field} {e : TypeId} {g0 g1 g2 : Field} (T : SchT P t f0 f1 f2 f3 f4 e g0 g1 g2) {v : Value} {d : DataW H} {ps : List MemPlace} (hok : Value.okWide P W r base0 t v) (h : DataW.Trod enc P W base spare held t v d ps) :
    ∃ A n c s, v = .agg #[.slice A n c, .int .i64 s.key, .int .i64 s.cmp, .int .i64 s.del, .int .i64 s.sort] ∧ Cs W A n c s.cols ∧ Sch1 s := by
  obtain ⟨cs, rfl, hsz⟩ := okWide_struct T.u hok
  obtain ⟨fuel, h⟩ := h
  obtain ⟨xs, k, hk, hxy, _, hxl, hf⟩ := DataW.trod_struct T.u h
  have hl : cs.toList.length = 5 := by simpa [T.c] using hsz
  simp only [Value.cells] at hf
  obtain ⟨ls⟩ := cs
  simp only [] at hl hf
  match xs, hxl, ls, hl with
  | [y0, y1, y2, y3, y4], _, [v0, v1, v2, v3, v4], _ =>
    have q0 := hf 0 f0 rfl
    have q1 := hf 1 f1 rfl
    have q2 := hf 2 f2 rfl
    have q3 := hf 3 f3 rfl
    have q4 := hf 4 f4 rfl
    simp [T.o0, T.o1, T.o2, T.o3, T.o4, T.c0, T.c1, T.c2, T.c3, T.c4] at q0 q1 q2 q3 q4
    obtain ⟨A, n, c, rfl⟩ := trod_slice_one T.u0 q0
    obtain ⟨os, hc⟩ := open_cs1 T.u0 T.k q0
    obtain ⟨a1, z1, _, w1⟩ := DataW.trod_int T.u1 q1
    obtain ⟨a2, z2, _, w2⟩ := DataW.trod_int T.u2 q2
    obtain ⟨a3, z3, _, w3⟩ := DataW.trod_int T.u3 q3
    obtain ⟨a4, z4, _, w4⟩ := DataW.trod_int T.u4 q4
    simp only [List.cons.injEq, and_true] at z1 z2 z3 z4
    subst z1 z2 z3 z4
    exact ⟨A, n, c, ⟨os, a1, a2, a3, a4⟩, rfl, hc, ⟨w1, w2, w3, w4⟩⟩
end
end Wd
end Go.Proofs.YtdmgjeipkpbojaaDoor
namespace Go.Proofs.YtdmgjeipkpbojaaDoor
set_option maxRecDepth 20000
namespace Wd
theorem schT : ∃ f0 f1 f2 f3 f4 g0 g1 g2, Wd.SchT Tryd.prog 24 f0 f1 f2 f3 f4 48 g0 g1 g2 :=
  ⟨_, _, _, _, _, _, _, _, ⟨Tryd.underlying24, by kernel_rfl, rfl, rfl, rfl, rfl, rfl, by kernel_rfl, by kernel_rfl, by kernel_rfl, by kernel_rfl, by kernel_rfl,
    Tryd.underlying22, Tryd.underlying3, Tryd.underlying3, Tryd.underlying3, Tryd.underlying3,
    ⟨Tryd.underlying48, by kernel_rfl, rfl, rfl, rfl, by kernel_rfl, by kernel_rfl, by kernel_rfl, Tryd.underlying9, Tryd.underlying3, Tryd.underlying4⟩⟩⟩
end Wd
end Go.Proofs.YtdmgjeipkpbojaaDoor
