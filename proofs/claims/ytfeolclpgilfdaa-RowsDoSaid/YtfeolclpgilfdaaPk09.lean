/- Words on memory: a slice of columns (a name, a kind, a truth); from an argument as the statement reads it to a schema. Over any program. The type of a schema, at this program. Rows in memory: their record, the block of their columns, each column's dictionary and numbers; what is kept while one column turns. Package rows: within; each, for whatever function it is handed. -/
import Derived.ProofKit
import Derived.OpenShut
import Derived.Deep.Slices
import Derived.Lib.SmallJoins
import Derived.WalkSpells
import Derived.Lib.Hide
import Derived.RegionTactic
import Derived.Test.YtfeolclpgilfdaaPk01
import Derived.Test.YtfeolclpgilfdaaPk03
import Derived.Test.YtfeolclpgilfdaaProg
import Derived.Test.YtfeolclpgilfdaaPk05
import Derived.Test.YtfeolclpgilfdaaPk08
namespace Go.Proofs.Ytfeolclpgilfdaa
set_option maxRecDepth 20000
open Go.RowKit Go.ChangeShapes Go.WideShapes
namespace Wd
open Sc (Col Sch)
instance : Inhabited Col := ⟨⟨⟨#[]⟩, 0, false⟩⟩
def colVals (o : Col) : List Value := [.string o.name, .int .i64 o.kind, .bool o.nul]
/-- Its number is the machine's, and its name no longer than any text. -/
structure Col1 (o : Col) : Prop where
  w0 : (Lit.int .i64 o.kind).wf = true
  w1 : o.name.size ≤ maxLen
/-- The slice value of address A, length n and capacity c holds the columns os. -/
structure Cs (w : World) (A : Option Addr) (n c : Nat) (os : List Col) : Prop where
  len : n = os.length
  cap : n ≤ c
  max : c ≤ maxLen
  nil : A = none → c = 0
  at_ : ∀ j, j < os.length → ∃ b o, A = some ⟨b, o, none⟩ ∧ b < w.heap.size ∧ (∀ i v, (colVals (os.getD j default))[i]? = some v → w.cell? ⟨b, o + (j * 3 + i), none⟩ = some v) ∧ Col1 (os.getD j default)
section
variable {w w' : World} {A : Option Addr} {n c : Nat} {os : List Col} {o : Col}
theorem Cs.below (h : Cs w A n c os) (hb : Below w.heap.size w w') : Cs w' A n c os :=
  ⟨h.len, h.cap, h.max, h.nil, fun j hj => by
    obtain ⟨b, o, e, hlt, hc, h1⟩ := h.at_ j hj
    exact ⟨b, o, e, Nat.lt_of_lt_of_le hlt hb.size, fun i v hv => (hb.cell (p := ⟨b, o + (j * 3 + i), none⟩) hlt).trans (hc i v hv), h1⟩⟩
theorem Cs.none_ (w : World) : Cs w none 0 0 [] := ⟨rfl, Nat.le_refl _, Nat.zero_le _, fun _ => rfl, fun _ h => by simp at h⟩
/-- The cells of the j-th. -/
theorem Cs.cells (h : Cs w A n c os) {j : Nat} (hj : j < os.length) {o : Col} (ho : o = os.getD j default) : ∃ b f, A = some ⟨b, f, none⟩ ∧ b < w.heap.size ∧ w.cell? ⟨b, f + j * 3, none⟩ = some (.string o.name) ∧ w.cell? ⟨b, f + j * 3 + 1, none⟩ = some (.int .i64 o.kind) ∧
    w.cell? ⟨b, f + j * 3 + 2, none⟩ = some (.bool o.nul) ∧ Col1 o := by
  subst ho
  obtain ⟨b, f, e, hlt, hc, h1⟩ := h.at_ j hj
  exact ⟨b, f, e, hlt, hc 0 _ rfl, by rw [Nat.add_assoc]; exact hc 1 _ rfl, by rw [Nat.add_assoc]; exact hc 2 _ rfl, h1⟩
end

section
variable {H : Type} {enc : TypeId × Value → H} {P : Program} {W : World} {r : Reach} {base0 base : Nat} {spare : Nat → Bool} {held : Bool}
/-- The type of a column: its three fields. -/
structure ColT (P : Program) (t : TypeId) (f0 f1 f2 : Field) : Prop where
  u : P.underlying t = some (.struct #[f0, f1, f2])
  c : P.cellsOf t = 3
  o0 : f0.offset = 0
  o1 : f1.offset = 1
  o2 : f2.offset = 2
  c0 : P.cellsOf f0.type = 1
  c1 : P.cellsOf f1.type = 1
  c2 : P.cellsOf f2.type = 1
  u0 : P.underlying f0.type = some .string
  u1 : P.underlying f1.type = some (.int .i64)
  u2 : P.underlying f2.type = some .bool
theorem open_col1 {t : TypeId} {f0 f1 f2 : Field} (T : ColT P t f0 f1 f2) {fuel : Nat} {cs : List Value} {x : DataW H × List MemPlace} (hl : cs.length = 3) (h : DataW.trod enc P W base spare held fuel t cs = some x) :
    ∃ o : Col, cs = colVals o ∧ Col1 o := by
  obtain ⟨xs, k, hk, hxy, _, hxl, hf⟩ := DataW.trod_struct T.u h
  match xs, hxl, cs, hl with
  | [y0, y1, y2], _, [v0, v1, v2], _ =>
    have g0 := hf 0 f0 rfl
    have g1 := hf 1 f1 rfl
    have g2 := hf 2 f2 rfl
    simp [T.o0, T.o1, T.o2, T.c0, T.c1, T.c2] at g0 g1 g2
    obtain ⟨s, z0, _, w0⟩ := DataW.trod_string T.u0 g0
    obtain ⟨a1, z1, _, w1⟩ := DataW.trod_int T.u1 g1
    obtain ⟨b, z2, _⟩ := DataW.trod_bool T.u2 g2
    simp only [List.cons.injEq, and_true] at z0 z1 z2
    subst z0 z1 z2
    exact ⟨⟨s, a1, b⟩, rfl, ⟨w1, w0⟩⟩
/-- A slice of columns, off the reading of it. -/
theorem open_cs1 {t e : TypeId} {f0 f1 f2 : Field} (ht : P.underlying t = some (.slice e)) (T : ColT P e f0 f1 f2) {fuel : Nat} {A : Option Addr} {n c : Nat} {x : DataW H × List MemPlace} (hf : DataW.trod enc P W base spare held fuel t [.slice A n c] = some x) :
    ∃ os, Cs W A n c os := by
  rcases Go.Deep.open_slice ht hf with ⟨hcs, _⟩ | ⟨a, len, cap, m, k, D, Pl, hcs, _, hl, hm, hmm, _, hx⟩
  · simp at hcs
    obtain ⟨rfl, rfl, rfl⟩ := hcs
    exact ⟨[], Cs.none_ _⟩
  · simp at hcs
    obtain ⟨rfl, rfl, rfl⟩ := hcs
    have hnm : n ≤ m := by rw [hmm]; split <;> omega
    rw [T.c] at hx
    obtain ⟨Y, hY⟩ := Go.Deep.choose_lt (α := Col) (n := n) (p := fun i y => (∀ j v, (colVals y)[j]? = some v → W.cell? (a.add (i * 3 + j)) = some v) ∧ Col1 y) (fun i hi => by
      obtain ⟨cs', h1, h2⟩ := hx i (by omega)
      obtain ⟨_, hlen, hcell⟩ := World.cells?_some h1
      obtain ⟨o, e1, h3⟩ := open_col1 T hlen h2
      refine ⟨o, fun j v hv => ?_, h3⟩
      have hj : j < 3 := by
        have := (List.getElem?_eq_some_iff.1 hv).1
        simpa [colVals] using this
      have h4 := hcell j hj
      rw [Go.Deep.add_add, e1, hv] at h4
      exact h4)
    refine ⟨(List.range n).map Y, ⟨by simp, hl, hm, by simp, fun j hj => ?_⟩⟩
    simp only [List.length_map, List.length_range] at hj
    have hg : ((List.range n).map Y).getD j default = Y j := by simp [List.getD, hj]
    obtain ⟨h1, h2⟩ := hY j hj
    obtain ⟨b, off, spot⟩ := a
    have hs : spot = none := by simpa [Addr.add] using World.cell?_spot ((hY 0 (by omega)).1 0 _ rfl)
    subst hs
    have h5 := h1 0 _ rfl
    rw [Addr.add_lit] at h5
    refine ⟨b, off, rfl, World.block_lt_of_cell? W ⟨b, off + (j * 3 + 0), none⟩ h5, fun i v hv => ?_, by rw [hg]; exact h2⟩
    rw [hg] at hv
    have := h1 i v hv
    rwa [Addr.add_lit] at this
/-- The type of a schema: its five fields. -/
structure SchT (P : Program) (t : TypeId) (f0 f1 f2 f3 f4 : Field) (e : TypeId) (g0 g1 g2 : Field) : Prop where
  u : P.underlying t = some (.struct #[f0, f1, f2, f3, f4])
  c : P.cellsOf t = 5
  o0 : f0.offset = 0
  o1 : f1.offset = 1
  o2 : f2.offset = 2
  o3 : f3.offset = 3
  o4 : f4.offset = 4
  c0 : P.cellsOf f0.type = 1
  c1 : P.cellsOf f1.type = 1
  c2 : P.cellsOf f2.type = 1
  c3 : P.cellsOf f3.type = 1
  c4 : P.cellsOf f4.type = 1
  u0 : P.underlying f0.type = some (.slice e)
  u1 : P.underlying f1.type = some (.int .i64)
  u2 : P.underlying f2.type = some (.int .i64)
  u3 : P.underlying f3.type = some (.int .i64)
  u4 : P.underlying f4.type = some (.int .i64)
  k : ColT P e g0 g1 g2
theorem trod_slice_one {t e : TypeId} (ht : P.underlying t = some (.slice e)) {fuel : Nat} {v : Value} {x : DataW H × List MemPlace} (h : DataW.trod enc P W base spare held fuel t [v] = some x) : ∃ A n c, v = .slice A n c := by
  rcases Go.Deep.open_slice ht h with ⟨hcs, _⟩ | ⟨a, len, cap, m, k, D, Pl, hcs, _⟩
  · simp only [List.cons.injEq, and_true] at hcs
    exact ⟨_, _, _, hcs⟩
  · simp only [List.cons.injEq, and_true] at hcs
    exact ⟨_, _, _, hcs⟩
/-- A schema's numbers are the machine's. -/
structure Sch1 (s : Sch) : Prop where
  w1 : (Lit.int .i64 s.key).wf = true
  w2 : (Lit.int .i64 s.cmp).wf = true
  w3 : (Lit.int .i64 s.del).wf = true
  w4 : (Lit.int .i64 s.sort).wf = true
theorem open_sch {t : TypeId} {f0 f1 f2 f3 f4 : Field} {e : TypeId} {g0 g1 g2 : Field} (T : SchT P t f0 f1 f2 f3 f4 e g0 g1 g2) {v : Value} {d : DataW H} {ps : List MemPlace} (hok : Value.okWide P W r base0 t v) (h : DataW.Trod enc P W base spare held t v d ps) :
    ∃ A n c s, v = .agg #[.slice A n c, .int .i64 s.key, .int .i64 s.cmp, .int .i64 s.del, .int .i64 s.sort] ∧ Cs W A n c s.cols ∧ Sch1 s := by
  obtain ⟨cs, rfl, hsz⟩ := okWide_struct T.u hok
  obtain ⟨fuel, h⟩ := h
  obtain ⟨xs, k, hk, hxy, _, hxl, hf⟩ := DataW.trod_struct T.u h
  have hl : cs.toList.length = 5 := by simpa [T.c] using hsz
  simp only [Value.cells] at hf
  obtain ⟨ls⟩ := cs
  simp only [] at hl hf
  match xs, hxl, ls, hl with
  | [y0, y1, y2, y3, y4], _, [v0, v1, v2, v3, v4], _ =>
    have q0 := hf 0 f0 rfl
    have q1 := hf 1 f1 rfl
    have q2 := hf 2 f2 rfl
    have q3 := hf 3 f3 rfl
    have q4 := hf 4 f4 rfl
    simp [T.o0, T.o1, T.o2, T.o3, T.o4, T.c0, T.c1, T.c2, T.c3, T.c4] at q0 q1 q2 q3 q4
    obtain ⟨A, n, c, rfl⟩ := trod_slice_one T.u0 q0
    obtain ⟨os, hc⟩ := open_cs1 T.u0 T.k q0
    obtain ⟨a1, z1, _, w1⟩ := DataW.trod_int T.u1 q1
    obtain ⟨a2, z2, _, w2⟩ := DataW.trod_int T.u2 q2
    obtain ⟨a3, z3, _, w3⟩ := DataW.trod_int T.u3 q3
    obtain ⟨a4, z4, _, w4⟩ := DataW.trod_int T.u4 q4
    simp only [List.cons.injEq, and_true] at z1 z2 z3 z4
    subst z1 z2 z3 z4
    exact ⟨A, n, c, ⟨os, a1, a2, a3, a4⟩, rfl, hc, ⟨w1, w2, w3, w4⟩⟩
end
end Wd
end Go.Proofs.Ytfeolclpgilfdaa
namespace Go.Proofs.Ytfeolclpgilfdaa
set_option maxRecDepth 20000
namespace Wd
theorem schT : ∃ f0 f1 f2 f3 f4 g0 g1 g2, Wd.SchT Try.prog 24 f0 f1 f2 f3 f4 57 g0 g1 g2 :=
  ⟨_, _, _, _, _, _, _, _, ⟨Try.underlying24, by kernel_rfl, rfl, rfl, rfl, rfl, rfl, by kernel_rfl, by kernel_rfl, by kernel_rfl, by kernel_rfl, by kernel_rfl,
    Try.underlying22, Try.underlying3, Try.underlying3, Try.underlying3, Try.underlying3,
    ⟨Try.underlying57, by kernel_rfl, rfl, rfl, rfl, by kernel_rfl, by kernel_rfl, by kernel_rfl, Try.underlying9, Try.underlying3, Try.underlying4⟩⟩⟩
end Wd
end Go.Proofs.Ytfeolclpgilfdaa
namespace Go.Proofs.Ytfeolclpgilfdaa
set_option maxRecDepth 20000
open Go.RowKit Go.Maps
namespace Rw
open Va (Vl May null)
open Sc (Sch)
/-- A column in memory: the pointer to its dictionary and the slice of its numbers; the dictionary's record, map, row and blocks. -/
structure Cd where
  dp : Value
  nv : Value
  d : Nat
  m : Nat
  v : Value
  G : Nat → Prop
def Ft (c : Cd) (x : Nat) : Prop := c.G x ∨ c.nv.ownBlock = some x
/-- The cells of n columns. -/
def cc (cd : Nat → Cd) (n : Nat) : List Value := (List.range (n * 2)).map fun j => if j % 2 = 0 then (cd (j / 2)).dp else (cd (j / 2)).nv
def upd {α : Type} (f : Nat → α) (k : Nat) (x : α) (j : Nat) : α := if j = k then x else f j
theorem upd_same {α : Type} (f : Nat → α) (k : Nat) (x : α) : upd f k x k = x := if_pos rfl
theorem upd_other {α : Type} (f : Nat → α) {k j : Nat} (x : α) (h : j ≠ k) : upd f k x j = f j := if_neg h
theorem cc_get (cd : Nat → Cd) {n j : Nat} (h : j < n * 2) : (cc cd n)[j]? = some (if j % 2 = 0 then (cd (j / 2)).dp else (cd (j / 2)).nv) := by
  unfold cc
  rw [List.getElem?_map, List.getElem?_range h]
  rfl
theorem cc_len (cd : Nat → Cd) (n : Nat) : (cc cd n).length = n * 2 := by simp [cc]
theorem cc_dp (cd : Nat → Cd) {n k : Nat} (h : k < n) : (cc cd n).toArray[k * 2]? = some (cd k).dp := by
  rw [List.getElem?_toArray, cc_get cd (by omega), if_pos (by omega), show k * 2 / 2 = k by omega]
theorem cc_nv (cd : Nat → Cd) {n k : Nat} (h : k < n) : (cc cd n).toArray[k * 2 + 1]? = some (cd k).nv := by
  rw [List.getElem?_toArray, cc_get cd (by omega), if_neg (by omega), show (k * 2 + 1) / 2 = k by omega]
theorem cc_set_dp (cd : Nat → Cd) {n k : Nat} (c : Cd) (hn : c.nv = (cd k).nv) (h : k < n) : (cc cd n).toArray.setIfInBounds (k * 2) c.dp = (cc (upd cd k c) n).toArray := by
  rw [List.setIfInBounds_toArray]
  congr 1
  refine List.ext_getElem? fun j => ?_
  rw [List.getElem?_set, cc_len]
  by_cases hj : j < n * 2
  · rw [cc_get cd hj, cc_get _ hj]
    by_cases e : k * 2 = j
    · subst e
      rw [if_pos rfl, if_pos (by omega), if_pos (by omega), show k * 2 / 2 = k by omega, upd_same]
    · rw [if_neg e]
      by_cases q : j / 2 = k
      · rw [q, upd_same, if_neg (by omega), if_neg (by omega), hn]
      · rw [upd_other _ _ q]
  · rw [List.getElem?_eq_none (by rw [cc_len]; omega), List.getElem?_eq_none (by rw [cc_len]; omega)]
    split
    · split <;> first | omega | rfl
    · rfl
theorem cc_set_nv (cd : Nat → Cd) {n k : Nat} (c : Cd) (hn : c.dp = (cd k).dp) (h : k < n) : (cc cd n).toArray.setIfInBounds (k * 2 + 1) c.nv = (cc (upd cd k c) n).toArray := by
  rw [List.setIfInBounds_toArray]
  congr 1
  refine List.ext_getElem? fun j => ?_
  rw [List.getElem?_set, cc_len]
  by_cases hj : j < n * 2
  · rw [cc_get cd hj, cc_get _ hj]
    by_cases e : k * 2 + 1 = j
    · subst e
      rw [if_pos rfl, if_pos (by omega), if_neg (by omega), show (k * 2 + 1) / 2 = k by omega, upd_same]
    · rw [if_neg e]
      by_cases q : j / 2 = k
      · rw [q, upd_same, if_pos (by omega), if_pos (by omega), hn]
      · rw [upd_other _ _ q]
  · rw [List.getElem?_eq_none (by rw [cc_len]; omega), List.getElem?_eq_none (by rw [cc_len]; omega)]
    split
    · split <;> first | omega | rfl
    · rfl
/-- Rows in memory: record r, block g of n columns (q of which have a dictionary), the schema's columns at A; V k: the values of column k. -/
structure Lay (w : World) (r g : Nat) (A : Option Addr) (n c : Nat) (s : Sch) (most vals : Int) (q : Nat) (cd : Nat → Cd) (V : Nat → List Vl) (ov : Value) (offs : List Int) : Prop where
  box : Wd.Bx w r 63 #[.slice A n c, .int .i64 s.key, .int .i64 s.cmp, .int .i64 s.del, .int .i64 s.sort, .int .i64 most, .int .i64 vals, .slice (some ⟨g, 0, none⟩) n n, ov]
  sch : Wd.Cs w A n c s.cols
  row : Wd.Bx w g 69 (cc cd n).toArray
  own : w.ownsRow 0 3 1 ov offs.length (offs.map (Value.int .i64))
  dic : ∀ k, k < n → k < q → (cd k).dp = Dt.pt (cd k).d ∧ Dt.Lay w (cd k).d (cd k).m (cd k).v (ow (V k)) vals (cd k).G
  num : ∀ k, k < n → w.ownsRow 0 3 1 (cd k).nv (V k).length ((nm (V k)).map (Value.int .i64))
  no : ∀ k, k < n → q ≤ k → (cd k).dp = .pointer none ∧ ∀ x, ¬ (cd k).G x
  a0 : ∀ k, k < n → ∀ x, (cd k).G x → x < w.heap.size ∧ x ≠ r ∧ x ≠ g ∧ ov.ownBlock ≠ some x ∧ (cd k).nv.ownBlock ≠ some x
  a1 : ∀ k, k < n → ∀ x, (cd k).nv.ownBlock = some x → ov.ownBlock ≠ some x
  a2 : ∀ i j, i < n → j < n → i ≠ j → ∀ x, Ft (cd i) x → ¬ Ft (cd j) x
  a3 : ∀ b o, A = some ⟨b, o, none⟩ → b ≠ r ∧ b ≠ g ∧ ov.ownBlock ≠ some b ∧ ∀ k, k < n → ¬ Ft (cd k) b
/-- All the blocks that may turn. -/
def Foot (r g n : Nat) (cd : Nat → Cd) (ov : Value) (x : Nat) : Prop := x = r ∨ x = g ∨ ov.ownBlock = some x ∨ ∃ k, k < n ∧ Ft (cd k) x
section
variable {w w' : World} {r g : Nat} {A : Option Addr} {n c : Nat} {s : Sch} {most vals : Int} {q : Nat} {cd : Nat → Cd} {V : Nat → List Vl} {ov : Value} {offs : List Int}
theorem ft_upd {k : Nat} {e : Cd} (j : Nat) (x : Nat) : Ft (upd cd k e j) x ↔ if j = k then Ft e x else Ft (cd j) x := by
  unfold upd
  split <;> rfl
theorem Lay.rg (h : Lay w r g A n c s most vals q cd V ov offs) : r ≠ g := by
  intro e
  have h1 := h.box
  have h2 := h.row
  unfold Wd.Bx at h1 h2
  rw [e, h2] at h1
  simp at h1
theorem Lay.ovr (h : Lay w r g A n c s most vals q cd V ov offs) : ov.ownBlock ≠ some r := fun e => h.box.apart h.own (by decide) e.symm
theorem Lay.ovg (h : Lay w r g A n c s most vals q cd V ov offs) : ov.ownBlock ≠ some g := fun e => h.row.apart h.own (by decide) e.symm
theorem Lay.nvr (h : Lay w r g A n c s most vals q cd V ov offs) {k : Nat} (hk : k < n) : (cd k).nv.ownBlock ≠ some r := fun e => h.box.apart (h.num k hk) (by decide) e.symm
theorem Lay.nvg (h : Lay w r g A n c s most vals q cd V ov offs) {k : Nat} (hk : k < n) : (cd k).nv.ownBlock ≠ some g := fun e => h.row.apart (h.num k hk) (by decide) e.symm
theorem Lay.ftlt (h : Lay w r g A n c s most vals q cd V ov offs) {k : Nat} (hk : k < n) {x : Nat} (hx : Ft (cd k) x) : x < w.heap.size ∧ x ≠ r ∧ x ≠ g ∧ ov.ownBlock ≠ some x := by
  rcases hx with hx | hx
  · have := h.a0 k hk x hx
    exact ⟨this.1, this.2.1, this.2.2.1, this.2.2.2.1⟩
  · exact ⟨(Wd.own_lt (h.num k hk) hx).1, fun e => h.nvr hk (e ▸ hx), fun e => h.nvg hk (e ▸ hx), h.a1 k hk x hx⟩
theorem Lay.foot_lt (h : Lay w r g A n c s most vals q cd V ov offs) {x : Nat} (hx : Foot r g n cd ov x) : x < w.heap.size := by
  rcases hx with rfl | rfl | hx | ⟨k, hk, hx⟩
  · exact h.box.lt
  · exact h.row.lt
  · exact (Wd.own_lt h.own hx).1
  · exact (h.ftlt hk hx).1
theorem Lay.foot_a (h : Lay w r g A n c s most vals q cd V ov offs) {b o : Nat} (hA : A = some ⟨b, o, none⟩) : ¬ Foot r g n cd ov b := by
  obtain ⟨h1, h2, h3, h4⟩ := h.a3 b o hA
  rintro (e | e | e | ⟨k, hk, e⟩)
  · exact h1 e
  · exact h2 e
  · exact h3 e
  · exact h4 k hk e
theorem cs_keep {cs : List Sc.Col} (h : Wd.Cs w A n c cs) (hs : w.heap.size ≤ w'.heap.size) (hk : ∀ b o, A = some ⟨b, o, none⟩ → w'.heap[b]? = w.heap[b]?) : Wd.Cs w' A n c cs :=
  ⟨h.len, h.cap, h.max, h.nil, fun j hj => by
    obtain ⟨b, o, e, hlt, hc, h1⟩ := h.at_ j hj
    refine ⟨b, o, e, Nat.lt_of_lt_of_le hlt hs, fun i v hv => ?_, h1⟩
    have := hc i v hv
    have hb := hk b o e
    simp only [World.cell?, hb] at this ⊢
    exact this⟩
theorem vs_keep {vs : List Vl} (h : Wd.Vs w A n c vs) (hs : w.heap.size ≤ w'.heap.size) (hk : ∀ b o, A = some ⟨b, o, none⟩ → w'.heap[b]? = w.heap[b]?) : Wd.Vs w' A n c vs :=
  ⟨h.len, h.cap, h.max, h.nil, fun j hj => by
    obtain ⟨b, o, e, hlt, hc, h1⟩ := h.at_ j hj
    refine ⟨b, o, e, Nat.lt_of_lt_of_le hlt hs, fun i v hv => ?_, h1⟩
    have := hc i v hv
    have hb := hk b o e
    simp only [World.cell?, hb] at this ⊢
    exact this⟩
theorem vs_mv {F : Nat → Prop} {vs : List Vl} (h : Wd.Vs w A n c vs) (mv : Wd.Mv F w w') (hA : ∀ b o, A = some ⟨b, o, none⟩ → ¬ F b) : Wd.Vs w' A n c vs :=
  ⟨h.len, h.cap, h.max, h.nil, fun j hj => by
    obtain ⟨b, o, e, hlt, hc, h1⟩ := h.at_ j hj
    refine ⟨b, o, e, Nat.lt_of_lt_of_le hlt mv.size, fun i v hv => ?_, h1⟩
    have := hc i v hv
    have hb := mv.keep b hlt (hA b o e)
    simp only [World.cell?, hb] at this ⊢
    exact this⟩
/-- Nothing of it turns. -/
theorem Lay.at_ (h : Lay w r g A n c s most vals q cd V ov offs) (hs : w.heap.size ≤ w'.heap.size) (hk : ∀ x, x < w.heap.size → (Foot r g n cd ov x ∨ (∃ o, A = some ⟨x, o, none⟩)) → w'.heap[x]? = w.heap[x]?) : Lay w' r g A n c s most vals q cd V ov offs := by
  have kf : ∀ x, Foot r g n cd ov x → w'.heap[x]? = w.heap[x]? := fun x hx => hk x (h.foot_lt hx) (.inl hx)
  refine ⟨h.box.at_ (kf r (.inl rfl)), ?_, h.row.at_ (kf g (.inr (.inl rfl))), Wd.own_keep h.own (fun x hx => kf x (.inr (.inr (.inl hx)))), fun k hk' hq => ?_, fun k hk' => ?_, h.no, fun k hk' x hx => ?_, h.a1, h.a2, h.a3⟩
  · refine ⟨h.sch.len, h.sch.cap, h.sch.max, h.sch.nil, fun j hj => ?_⟩
    obtain ⟨b, o, e, hlt, hc, h1⟩ := h.sch.at_ j hj
    refine ⟨b, o, e, Nat.lt_of_lt_of_le hlt hs, fun i v hv => ?_, h1⟩
    have := hc i v hv
    have hb := hk b hlt (.inr ⟨o, e⟩)
    simp only [World.cell?, hb] at this ⊢
    exact this
  · obtain ⟨e, hd⟩ := h.dic k hk' hq
    exact ⟨e, hd.at_ hs fun x hx => kf x (.inr (.inr (.inr ⟨k, hk', .inl hx⟩)))⟩
  · exact Wd.own_keep (h.num k hk') fun x hx => kf x (.inr (.inr (.inr ⟨k, hk', .inr hx⟩)))
  · have := h.a0 k hk' x hx
    exact ⟨Nat.lt_of_lt_of_le this.1 hs, this.2⟩
theorem Lay.below (h : Lay w r g A n c s most vals q cd V ov offs) (hb : Below w.heap.size w w') : Lay w' r g A n c s most vals q cd V ov offs := h.at_ hb.size fun x hx _ => hb.block x hx
/-- Column k turns, and nothing else. -/
theorem Lay.turn (h : Lay w r g A n c s most vals q cd V ov offs) {k : Nat} (hk : k < n) {e : Cd} {l : List Vl} (q' : Nat)
    (mv : Wd.Mv (fun x => x = g ∨ Ft (cd k) x) w w') (row' : Wd.Bx w' g 69 (cc (upd cd k e) n).toArray)
    (dp : e.dp = Dt.pt e.d) (dic' : Dt.Lay w' e.d e.m e.v (ow l) vals e.G) (num' : w'.ownsRow 0 3 1 e.nv l.length ((nm l).map (Value.int .i64)))
    (hG : ∀ x, e.G x → (cd k).G x ∨ w.heap.size ≤ x) (hN : ∀ x, e.nv.ownBlock = some x → (cd k).nv.ownBlock = some x ∨ w.heap.size ≤ x)
    (hd : ∀ x, e.G x → e.nv.ownBlock ≠ some x) (hq : ∀ j, j < n → j ≠ k → (j < q' ↔ j < q)) (hkq : k < q') :
    Lay w' r g A n c s most vals q' (upd cd k e) (upd V k l) ov offs ∧ ∀ x, Foot r g n (upd cd k e) ov x → Wd.Gr (Foot r g n cd ov) w w' x := by
  have hft : ∀ x, Ft e x → Ft (cd k) x ∨ w.heap.size ≤ x := by
    rintro x (hx | hx)
    · rcases hG x hx with z | z
      · exact .inl (.inl z)
      · exact .inr z
    · rcases hN x hx with z | z
      · exact .inl (.inr z)
      · exact .inr z
  have hflt : ∀ x, Ft e x → x < w'.heap.size := by
    rintro x (hx | hx)
    · exact dic'.bd x hx
    · exact (Wd.own_lt num' hx).1
  have keep : ∀ x, x < w.heap.size → x ≠ g → ¬ Ft (cd k) x → w'.heap[x]? = w.heap[x]? := fun x h1 h2 h3 => mv.keep x h1 (by rintro (z | z); exact h2 z; exact h3 z)
  have rlt := h.box.lt
  have glt := h.row.lt
  refine ⟨⟨?_, ?_, row', ?_, ?_, ?_, ?_, ?_, ?_, ?_, ?_⟩, ?_⟩
  · exact h.box.at_ (keep r rlt h.rg fun z => (h.ftlt hk z).2.1 rfl)
  · refine cs_keep h.sch mv.size fun b o hA => ?_
    have h3 := h.a3 b o hA
    by_cases hlt : b < w.heap.size
    · exact keep b hlt h3.2.1 (h3.2.2.2 k hk)
    · exfalso
      have h0 := h.sch.len
      obtain ⟨b', o', hA', hlt', _⟩ := h.sch.at_ 0 (by omega)
      rw [hA] at hA'
      cases hA'
      exact hlt hlt'
  · exact Wd.own_keep h.own fun x hx => keep x (Wd.own_lt h.own hx).1 (fun z => h.ovg (z ▸ hx)) (fun z => (h.ftlt hk z).2.2.2 hx)
  · intro j hj hjq
    by_cases z : j = k
    · subst z
      rw [upd_same, upd_same]
      exact ⟨dp, dic'⟩
    · rw [upd_other _ _ z, upd_other _ _ z]
      obtain ⟨h1, h2⟩ := h.dic j hj ((hq j hj z).1 hjq)
      refine ⟨h1, h2.at_ mv.size fun x hx => ?_⟩
      have h3 := h.a0 j hj x hx
      exact keep x h3.1 h3.2.2.1 (h.a2 j k hj hk z x (.inl hx))
  · intro j hj
    by_cases z : j = k
    · subst z
      rw [upd_same, upd_same]
      exact num'
    · rw [upd_other _ _ z, upd_other _ _ z]
      exact Wd.own_keep (h.num j hj) fun x hx => keep x (Wd.own_lt (h.num j hj) hx).1 (fun e => h.nvg hj (e ▸ hx)) (h.a2 j k hj hk z x (.inr hx))
  · intro j hj hjq
    have z : j ≠ k := by omega
    rw [upd_other _ _ z]
    exact h.no j hj (by have := (hq j hj z); omega)
  · intro j hj x hx
    by_cases z : j = k
    · subst z
      rw [upd_same] at hx ⊢
      refine ⟨dic'.bd x hx, ?_⟩
      rcases hG x hx with y | y
      · have h3 := h.a0 j hk x y
        exact ⟨h3.2.1, h3.2.2.1, h3.2.2.2.1, hd x hx⟩
      · exact ⟨by omega, by omega, fun e => by have := (Wd.own_lt h.own e).1; omega, hd x hx⟩
    · rw [upd_other _ _ z] at hx ⊢
      have h3 := h.a0 j hj x hx
      exact ⟨Nat.lt_of_lt_of_le h3.1 mv.size, h3.2⟩
  · intro j hj x hx
    by_cases z : j = k
    · subst z
      rw [upd_same] at hx
      rcases hN x hx with y | y
      · exact h.a1 j hk x y
      · exact fun e => by have := (Wd.own_lt h.own e).1; omega
    · rw [upd_other _ _ z] at hx
      exact h.a1 j hj x hx
  · intro i j hi hj hij x hx hy
    rw [ft_upd] at hx hy
    by_cases zi : i = k
    · have zj : j ≠ k := by omega
      rw [if_pos zi] at hx
      rw [if_neg zj] at hy
      rcases hft x hx with y | y
      · exact h.a2 k j hk hj (by omega) x y hy
      · have := (h.ftlt hj hy).1
        omega
    · rw [if_neg zi] at hx
      by_cases zj : j = k
      · rw [if_pos zj] at hy
        rcases hft x hy with y | y
        · exact h.a2 i k hi hk zi x hx y
        · have := (h.ftlt hi hx).1
          omega
      · rw [if_neg zj] at hy
        exact h.a2 i j hi hj hij x hx hy
  · intro b o hA
    obtain ⟨h1, h2, h3, h4⟩ := h.a3 b o hA
    refine ⟨h1, h2, h3, fun j hj hx => ?_⟩
    rw [ft_upd] at hx
    by_cases zj : j = k
    · rw [if_pos zj] at hx
      rcases hft b hx with y | y
      · exact h4 k hk y
      · have h0 := h.sch.len
        obtain ⟨b', o', hA', hlt', _⟩ := h.sch.at_ 0 (by omega)
        rw [hA] at hA'
        cases hA'
        omega
    · rw [if_neg zj] at hx
      exact h4 j hj hx
  · rintro x (hx | hx | hx | ⟨j, hj, hx⟩)
    · exact .inl (.inl hx)
    · exact .inl (.inr (.inl hx))
    · exact .inl (.inr (.inr (.inl hx)))
    · rw [ft_upd] at hx
      by_cases zj : j = k
      · rw [if_pos zj] at hx
        rcases hft x hx with y | y
        · exact .inl (.inr (.inr (.inr ⟨k, hk, y⟩)))
        · exact .inr ⟨y, hflt x hx⟩
      · rw [if_neg zj] at hx
        exact .inl (.inr (.inr (.inr ⟨j, hj, hx⟩)))
end
/-- Rows of state S at r, in the blocks F alone (those that may turn, and the schema's columns). -/
def R (w : World) (r : Nat) (S : St) (F : Nat → Prop) : Prop :=
  ∃ g A n c cd ov, n = S.s.cols.length ∧ Lay w r g A n c S.s S.most S.vals n cd (col S.rows) ov S.offs ∧ 0 < n ∧ ∀ x, F x ↔ Foot r g n cd ov x ∨ ∃ o, A = some ⟨x, o, none⟩
theorem R.below {w w' : World} {r : Nat} {S : St} {F : Nat → Prop} (h : R w r S F) (hb : Below w.heap.size w w') : R w' r S F := by
  obtain ⟨g, A, n, c, cd, ov, hn, hl, hF⟩ := h
  exact ⟨g, A, n, c, cd, ov, hn, hl.below hb, hF⟩
theorem R.lt {w : World} {r : Nat} {S : St} {F : Nat → Prop} (h : R w r S F) {x : Nat} (hx : F x) : x < w.heap.size := by
  obtain ⟨g, A, n, c, cd, ov, hn, hl, h0, hF⟩ := h
  rcases (hF x).1 hx with q | ⟨o, q⟩
  · exact hl.foot_lt q
  · obtain ⟨b', o', e, hlt, _⟩ := hl.sch.at_ 0 (by omega)
    rw [q] at e
    cases e
    exact hlt
/-- Nothing of them turns. -/
theorem R.keep {w w' : World} {r : Nat} {S : St} {F G : Nat → Prop} (h : R w r S F) (mv : Wd.Mv G w w') (hG : ∀ x, G x → ¬ F x) : R w' r S F := by
  obtain ⟨g, A, n, c, cd, ov, hn, hl, h0, hF⟩ := h
  exact ⟨g, A, n, c, cd, ov, hn, hl.at_ mv.size fun x hx hq => mv.keep x hx fun q => hG x q ((hF x).2 hq), h0, hF⟩
end Rw
end Go.Proofs.Ytfeolclpgilfdaa
namespace Go.Proofs.Ytfeolclpgilfdaa
set_option maxRecDepth 20000
open Go.RowKit
namespace Rw
open Va (Vl May null)
theorem within_any (k lo hi : Int) (w : World) : Calls Try.prog 26 #[.int .i64 k, .int .i64 lo, .int .i64 hi] w fun e w' => e = .returned (.bool (decide (lo ≤ k ∧ k ≤ hi))) ∧ w' = w := by
  by_cases h0 : lo ≤ k
  · have e1 : decide (lo ≤ k ∧ k ≤ hi) = decide (k ≤ hi) := by simp [h0]
    rw [e1]
    clear e1
    go_enter Try.func26, Try.ntmps26
    go_wp2_with fail
    go_ret
    exact ⟨rfl, rfl⟩
  · have e1 : decide (lo ≤ k ∧ k ≤ hi) = false := by simp [h0]
    rw [e1]
    clear e1
    go_enter Try.func26, Try.ntmps26
    go_wp2_with fail
    go_ret
    exact ⟨rfl, rfl⟩
/-- The function f has a body, which a call enters. -/
def Goes (f : Nat) : Prop := ∀ (args : Array Value) (w : World), (callFunc f args).run Try.prog w = .ok (.enter f args) w
/-- The function f takes columns: called with number and address of column k (and with what it has captured) it turns Inv k into Inv (k + 1). -/
def Takes (f : Nat) (cap : Array Value) (g n : Nat) (Inv : Nat → World → Prop) : Prop :=
  ∀ k w, k < n → Inv k w → Calls Try.prog f (#[.int .i64 k, .pointer (some ⟨g, k * 2, none⟩)] ++ cap) w fun e w' => e = .returned (.tuple #[]) ∧ Inv (k + 1) w'
set_option maxHeartbeats 400000 in
theorem each_any (f : Nat) (cap : Array Value) (r g n : Nat) (Inv : Nat → World → Prop) (w : World) (hn : n ≤ 1000)
    (hf : Goes f) (hr : ∀ k w, Inv k w → w.cell? ⟨r, 7, none⟩ = some (.slice (some ⟨g, 0, none⟩) n n)) (hs : Takes f cap g n Inv) (h0 : Inv 0 w) :
    Calls Try.prog 28 #[Dt.pt r, .func (.func f) #[] cap] w fun e w' => e = .returned (.tuple #[]) ∧ Inv n w' := by
  have Hs := Lib.hid hs
  have Hr := Lib.hid hr
  have c0 := hr 0 w h0
  unfold Goes at hf
  clear hs hr
  go_enter Try.func28, Try.ntmps28
  go_wp2
  go_loopw [10] (fun i wr => ∃ k : Nat, i = .int .i64 k ∧ k ≤ n ∧ Inv k wr) (fun i _ => n - (intOf i).toNat)
  case atStart => exact ⟨0, rfl, Nat.zero_le _, h0⟩
  case round =>
    obtain ⟨k, rfl, hk, hI⟩ := hrel
    clear c0
    by_cases hlt : k < n
    · have c0 := Hr.out k wr hI
      have Hc := Lib.hid (Hs.out k wr hlt hI)
      have hkI : (k : Int) < (n : Int) := by omega
      go_wp2_with fail
      refine Hc.out.mono ?_
      rintro e w' ⟨rfl, hI'⟩
      go_wp2_with fail
      go_roundw
      case rel => exact ⟨k + 1, by go_num, by omega, hI'⟩
      case measure => simp [intOf]; omega
    · have hkI : ¬ (k : Int) < (n : Int) := by omega
      go_wp2_with fail
      go_end0
      obtain rfl : k = n := by omega
      exact ⟨rfl, hI⟩
end Rw
end Go.Proofs.Ytfeolclpgilfdaa
