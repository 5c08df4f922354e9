/- Words on memory: a slice of columns (a name, a kind, a truth); from an argument as the statement reads it to a schema. Over any program. The type of a schema, at this program. A table in memory: its record, its three maps, the maps of the winners of each segment; what is kept where other blocks turn. What the smaller functions of package value do: own, digit; a value's block; a struct result's cell. What cmp.Compare does at numbers, texts and bytes, and cmp.Or. -/
import Derived.ProofKit
import Derived.OpenShut
import Derived.Deep.Slices
import Derived.Lib.SmallJoins
import Derived.WalkKit
import Derived.WalkSpells
import Derived.WalkLawsBesides
import Derived.Lib.Hide
import Derived.Test.YtpappcmgnnmbeaaDoorPk01
import Derived.Test.YtpappcmgnnmbeaaDoorPk03
import Derived.Test.YtpappcmgnnmbeaaDoorProg
import Derived.Test.YtpappcmgnnmbeaaDoorPk06
import Derived.Test.YtpappcmgnnmbeaaDoorPk07
import Derived.Test.YtpappcmgnnmbeaaDoorPk09
import Derived.Test.YtpappcmgnnmbeaaDoorPk05
namespace Go.Proofs.YtpappcmgnnmbeaaDoor
set_option maxRecDepth 20000
open Go.RowKit Go.ChangeShapes Go.WideShapes
namespace Wd
open Sc (Col Sch)
instance : Inhabited Col := ⟨⟨⟨#[]⟩, 0, false⟩⟩
def colVals (o : Col) : List Value := [.string o.name, .int .i64 o.kind, .bool o.nul]
/-- Its number is the machine's, and its name no longer than any text. -/
structure Col1 (o : Col) : Prop where
  w0 : (Lit.int .i64 o.kind).wf = true
  w1 : o.name.size ≤ maxLen
/-- The slice value of address A, length n and capacity c holds the columns os. -/
structure Cs (w : World) (A : Option Addr) (n c : Nat) (os : List Col) : Prop where
  len : n = os.length
  cap : n ≤ c
  max : c ≤ maxLen
  nil : A = none → c = 0
  at_ : ∀ j, j < os.length → ∃ b o, A = some ⟨b, o, none⟩ ∧ b < w.heap.size ∧ (∀ i v, (colVals (os.getD j default))[i]? = some v → w.cell? ⟨b, o + (j * 3 + i), none⟩ = some v) ∧ Col1 (os.getD j default)
section
variable {w w' : World} {A : Option Addr} {n c : Nat} {os : List Col} {o : Col}
theorem Cs.below (h : Cs w A n c os) (hb : Below w.heap.size w w') : Cs w' A n c os :=
  ⟨h.len, h.cap, h.max, h.nil, fun j hj => by
    obtain ⟨b, o, e, hlt, hc, h1⟩ := h.at_ j hj
    exact ⟨b, o, e, Nat.lt_of_lt_of_le hlt hb.size, fun i v hv => (hb.cell (p := ⟨b, o + (j * 3 + i), none⟩) hlt).trans (hc i v hv), h1⟩⟩
theorem Cs.none_ (w : World) : Cs w none 0 0 [] := ⟨rfl, Nat.le_refl _, Nat.zero_le _, fun _ => rfl, fun _ h => by simp at h⟩
/-- The cells of the j-th. -/
theorem Cs.cells (h : Cs w A n c os) {j : Nat} (hj : j < os.length) {o : Col} (ho : o = os.getD j default) : ∃ b f, A = some ⟨b, f, none⟩ ∧ b < w.heap.size ∧ w.cell? ⟨b, f + j * 3, none⟩ = some (.string o.name) ∧ w.cell? ⟨b, f + j * 3 + 1, none⟩ = some (.int .i64 o.kind) ∧
    w.cell? ⟨b, f + j * 3 + 2, none⟩ = some (.bool o.nul) ∧ Col1 o := by
  subst ho
  obtain ⟨b, f, e, hlt, hc, h1⟩ := h.at_ j hj
  exact ⟨b, f, e, hlt, hc 0 _ rfl, by rw [Nat.add_assoc]; exact hc 1 _ rfl, by rw [Nat.add_assoc]; exact hc 2 _ rfl, h1⟩
end

section
variable {H : Type} {enc : TypeId × Value → H} {P : Program} {W : World} {r : Reach} {base0 base : Nat} {spare : Nat → Bool} {held : Bool}
/-- The type of a column: its three fields. -/
structure ColT (P : Program) (t : TypeId) (f0 f1 f2 : Field) : Prop where
  u : P.underlying t = some (.struct #[f0, f1, f2])
  c : P.cellsOf t = 3
  o0 : f0.offset = 0
  o1 : f1.offset = 1
  o2 : f2.offset = 2
  c0 : P.cellsOf f0.type = 1
  c1 : P.cellsOf f1.type = 1
  c2 : P.cellsOf f2.type = 1
  u0 : P.underlying f0.type = some .string
  u1 : P.underlying f1.type = some (.int .i64)
  u2 : P.underlying f2.type = some .bool
theorem open_col1 {t : TypeId} {f0 f1 f2 : Field} (T : ColT P t f0 f1 f2) {fuel : Nat} {cs : List Value} {x : DataW H × List MemPlace} (hl : cs.length = 3) (h : DataW.trod enc P W base spare held fuel t cs = some x) :
    ∃ o : Col, cs = colVals o ∧ Col1 o := by
  obtain ⟨xs, k, hk, hxy, _, hxl, hf⟩ := DataW.trod_struct T.u h
  match xs, hxl, cs, hl with
  | [y0, y1, y2], _, [v0, v1, v2], _ =>
    have g0 := hf 0 f0 rfl
    have g1 := hf 1 f1 rfl
    have g2 := hf 2 f2 rfl
    simp [T.o0, T.o1, T.o2, T.c0, T.c1, T.c2] at g0 g1 g2
    obtain ⟨s, z0, _, w0⟩ := DataW.trod_string T.u0 g0
    obtain ⟨a1, z1, _, w1⟩ := DataW.trod_int T.u1 g1
    obtain ⟨b, z2, _⟩ := DataW.trod_bool T.u2 g2
    simp only [List.cons.injEq, and_true] at z0 z1 z2
    subst z0 z1 z2
    exact ⟨⟨s, a1, b⟩, rfl, ⟨w1, w0⟩⟩
/-- A slice of columns, off the reading of it. -/
theorem open_cs1 {t e : TypeId} {f0 f1 f2 : Field} (ht : P.underlying t = some (.slice e)) (T : ColT P e f0 f1 f2) {fuel : Nat} {A : Option Addr} {n c : Nat} {x : DataW H × List MemPlace} (hf : DataW.trod enc P W base spare held fuel t [.slice A n c] = some x) :
    ∃ os, Cs W A n c os := by
  rcases Go.Deep.open_slice ht hf with ⟨hcs, _⟩ | ⟨a, len, cap, m, k, D, Pl, hcs, _, hl, hm, hmm, _, hx⟩
  · simp at hcs
    obtain ⟨rfl, rfl, rfl⟩ := hcs
    exact ⟨[], Cs.none_ _⟩
  · simp at hcs
    obtain ⟨rfl, rfl, rfl⟩ := hcs
    have hnm : n ≤ m := by rw [hmm]; split <;> omega
    rw [T.c] at hx
    obtain ⟨Y, hY⟩ := Go.Deep.choose_lt (α := Col) (n := n) (p := fun i y => (∀ j v, (colVals y)[j]? = some v → W.cell? (a.add (i * 3 + j)) = some v) ∧ Col1 y) (fun i hi => by
      obtain ⟨cs', h1, h2⟩ := hx i (by omega)
      obtain ⟨_, hlen, hcell⟩ := World.cells?_some h1
      obtain ⟨o, e1, h3⟩ := open_col1 T hlen h2
      refine ⟨o, fun j v hv => ?_, h3⟩
      have hj : j < 3 := by
        have := (List.getElem?_eq_some_iff.1 hv).1
        simpa [colVals] using this
      have h4 := hcell j hj
      rw [Go.Deep.add_add, e1, hv] at h4
      exact h4)
    refine ⟨(List.range n).map Y, ⟨by simp, hl, hm, by simp, fun j hj => ?_⟩⟩
    simp only [List.length_map, List.length_range] at hj
    have hg : ((List.range n).map Y).getD j default = Y j := by simp [List.getD, hj]
    obtain ⟨h1, h2⟩ := hY j hj
    obtain ⟨b, off, spot⟩ := a
    have hs : spot = none := by simpa [Addr.add] using World.cell?_spot ((hY 0 (by omega)).1 0 _ rfl)
    subst hs
    have h5 := h1 0 _ rfl
    rw [Addr.add_lit] at h5
    refine ⟨b, off, rfl, World.block_lt_of_cell? W ⟨b, off + (j * 3 + 0), none⟩ h5, fun i v hv => ?_, by rw [hg]; exact h2⟩
    rw [hg] at hv
    have := h1 i v hv
    rwa [Addr.add_lit] at this
/-- The type of a schema: its five fields. -/
structure SchT (P : Program) (t : TypeId) (f0 f1 f2 f3 f4 : Field) (e : TypeId) (g0 g1 g2 : Field) : Prop where
  u : P.underlying t = some (.struct #[f0, f1, f2, f3, f4])
  c : P.cellsOf t = 5
  o0 : f0.offset = 0
  o1 : f1.offset = 1
  o2 : f2.offset = 2
  o3 : f3.offset = 3
  o4 : f4.offset = 4
  c0 : P.cellsOf f0.type = 1
  c1 : P.cellsOf f1.type = 1
  c2 : P.cellsOf f2.type = 1
  c3 : P.cellsOf f3.type = 1
  c4 : P.cellsOf f4.type = 1
  u0 : P.underlying f0.type = some (.slice e)
  u1 : P.underlying f1.type = some (.int .i64)
  u2 : P.underlying f2.type = some (.int .i64)
  u3 : P.underlying f3.type = some (.int .i64)
  u4 : P.underlying f4.type = some (.int .i64)
  k : ColT P e g0 g1 g2
theorem trod_slice_one {t e : TypeId} (ht : P.underlying t = some (.slice e)) {fuel : Nat} {v : Value} {x : DataW H × List MemPlace} (h : DataW.trod enc P W base spare held fuel t [v] = some x) : ∃ A n c, v = .slice A n c := by
  rcases Go.Deep.open_slice ht h with ⟨hcs, _⟩ | ⟨a, len, cap, m, k, D, Pl, hcs, _⟩
  · simp only [List.cons.injEq, and_true] at hcs
    exact ⟨_, _, _, hcs⟩
  · simp only [List.cons.injEq, and_true] at hcs
    exact ⟨_, _, _, hcs⟩
/-- A schema's numbers are the machine's. -/
structure Sch1 (s : Sch) : Prop where
  w1 : (Lit.int .i64 s.key).wf = true
  w2 : (Lit.int .i64 s.cmp).wf = true
  w3 : (Lit.int .i64 s.del).wf = true
  w4 : (Lit.int .i64 s.sort).wf = true
theorem open_sch {t : TypeId} {f0 f1 f2 f3 f4 : Field} {e : TypeId} {g0 g1 g2 : Field} (T : SchT P t f0 f1 f2 f3 f4 e g0 g1 g2) {v : Value} {d : DataW H} {ps : List MemPlace} (hok : Value.okWide P W r base0 t v) (h : DataW.Trod enc P W base spare held t v d ps) :
    ∃ A n c s, v = .agg #[.slice A n c, .int .i64 s.key, .int .i64 s.cmp, .int .i64 s.del, .int .i64 s.sort] ∧ Cs W A n c s.cols ∧ Sch1 s := by
  obtain ⟨cs, rfl, hsz⟩ := okWide_struct T.u hok
  obtain ⟨fuel, h⟩ := h
  obtain ⟨xs, k, hk, hxy, _, hxl, hf⟩ := DataW.trod_struct T.u h
  have hl : cs.toList.length = 5 := by simpa [T.c] using hsz
  simp only [Value.cells] at hf
  obtain ⟨ls⟩ := cs
  simp only [] at hl hf
  match xs, hxl, ls, hl with
  | [y0, y1, y2, y3, y4], _, [v0, v1, v2, v3, v4], _ =>
    have q0 := hf 0 f0 rfl
    have q1 := hf 1 f1 rfl
    have q2 := hf 2 f2 rfl
    have q3 := hf 3 f3 rfl
    have q4 := hf 4 f4 rfl
    simp [T.o0, T.o1, T.o2, T.o3, T.o4, T.c0, T.c1, T.c2, T.c3, T.c4] at q0 q1 q2 q3 q4
    obtain ⟨A, n, c, rfl⟩ := trod_slice_one T.u0 q0
    obtain ⟨os, hc⟩ := open_cs1 T.u0 T.k q0
    obtain ⟨a1, z1, _, w1⟩ := DataW.trod_int T.u1 q1
    obtain ⟨a2, z2, _, w2⟩ := DataW.trod_int T.u2 q2
    obtain ⟨a3, z3, _, w3⟩ := DataW.trod_int T.u3 q3
    obtain ⟨a4, z4, _, w4⟩ := DataW.trod_int T.u4 q4
    simp only [List.cons.injEq, and_true] at z1 z2 z3 z4
    subst z1 z2 z3 z4
    exact ⟨A, n, c, ⟨os, a1, a2, a3, a4⟩, rfl, hc, ⟨w1, w2, w3, w4⟩⟩
end
end Wd
end Go.Proofs.YtpappcmgnnmbeaaDoor
namespace Go.Proofs.YtpappcmgnnmbeaaDoor
set_option maxRecDepth 20000
namespace Wd
theorem schT : ∃ f0 f1 f2 f3 f4 g0 g1 g2, Wd.SchT Tryd.prog 24 f0 f1 f2 f3 f4 71 g0 g1 g2 :=
  ⟨_, _, _, _, _, _, _, _, ⟨Tryd.underlying24, by kernel_rfl, rfl, rfl, rfl, rfl, rfl, by kernel_rfl, by kernel_rfl, by kernel_rfl, by kernel_rfl, by kernel_rfl,
    Tryd.underlying22, Tryd.underlying3, Tryd.underlying3, Tryd.underlying3, Tryd.underlying3,
    ⟨Tryd.underlying71, by kernel_rfl, rfl, rfl, rfl, by kernel_rfl, by kernel_rfl, by kernel_rfl, Tryd.underlying9, Tryd.underlying3, Tryd.underlying4⟩⟩⟩
end Wd
end Go.Proofs.YtpappcmgnnmbeaaDoor
namespace Go.Proofs.YtpappcmgnnmbeaaDoor
set_option maxRecDepth 20000
open Go.RowKit Go.Maps
namespace Up
open Va (Vl)
open Sc (Sch)
def kI : Ky Int 3 := ⟨Value.int .i64, Lit.int .i64, fun x => (Lit.int .i64 x).wf = true, int_keyed Tryd.underlying3, fun h => keyOf_int_mk Tryd.underlying3 h, fun _ _ h => by injection h⟩
def kV : Ky Vl 27 := ⟨fun v => .agg #[.int .i64 v.kind, .int .i64 v.i, .string v.s, .bool v.b], Dm.keyV, fun v => Wd.V1 v ∧ v.s.size ≤ maxLen, Dm.law, fun h => Dm.key_of h.1 h.2, fun hx hy h => Dm.keyV_inj hx.1 hx.2 hy.1 hy.2 h⟩
/-- A winner's value. -/
def wv (r : Rw) : Value := .agg #[.int .i64 r.seg, .int .i64 r.doc, .int .i64 r.cmp, .int .i64 r.off, .bool r.gone]
def wz : Value := .agg #[.int .i64 0, .int .i64 0, .int .i64 0, .int .i64 0, .bool false]
theorem zero_set (w : World) : (zeroValue 54).run Tryd.prog w = .ok (.agg #[.slice none 0 0]) w := by kernel_rfl
theorem zero_map (w : World) : (zeroValue 83).run Tryd.prog w = .ok (.map none) w := by kernel_rfl
theorem zero_int (w : World) : (zeroValue 3).run Tryd.prog w = .ok (.int .i64 0) w := by kernel_rfl
theorem zero_win (w : World) : (zeroValue 47).run Tryd.prog w = .ok wz w := by kernel_rfl
/-- The winners that are in a segment. -/
def inn (W : Vl → Option Rw) (g : Int) (v : Vl) : Option Value := match W v with
  | some r => if r.seg = g then some (wv r) else none
  | none => none
/-- The blocks of H hold no text and no word. -/
def Alien (w : World) (H : Nat → Prop) : Prop := ∀ g, H g → ∀ j v, w.cell? ⟨g, j, none⟩ = some v → (∀ x, v ≠ .int .u64 x) ∧ ∀ s, v ≠ .string s
section
variable {w w' : World} {H : Nat → Prop} {A : Option Addr} {n c : Nat}
theorem alien_bx {g : Nat} {t : TypeId} {cs : List Value} (h : Wd.Bx w g t cs.toArray) (hn : ∀ v ∈ cs, (∀ x, v ≠ .int .u64 x) ∧ ∀ s, v ≠ .string s) : ∀ j v, w.cell? ⟨g, j, none⟩ = some v → (∀ x, v ≠ .int .u64 x) ∧ ∀ s, v ≠ .string s := by
  intro j v hv
  rw [h.cell, List.getElem?_toArray] at hv
  exact hn v (List.mem_of_getElem? hv)
theorem alien_mp {α : Type} {k : TypeId} {K : Ky α k} {b m : Nat} {f : α → Option Value} (h : Mp K w b m f) : ∀ j v, w.cell? ⟨b, j, none⟩ = some v → (∀ x, v ≠ .int .u64 x) ∧ ∀ s, v ≠ .string s := by
  intro j v hv
  obtain ⟨D, ⟨es, clock, hb, _⟩, _⟩ := h
  simp only [World.cell?, hb] at hv
  cases hv
theorem keep_str {b o : Nat} {s : ByteArray} (hH : Alien w H) (mv : Wd.Mv H w w') (hlt : b < w.heap.size) (hc : w.cell? ⟨b, o, none⟩ = some (.string s)) (o' : Nat) : w'.cell? ⟨b, o', none⟩ = w.cell? ⟨b, o', none⟩ :=
  World.cell?_of_block (a := ⟨b, o', none⟩) (mv.keep b hlt fun q => (hH b q o _ hc).2 s rfl)
theorem cs_alien {cs : List Sc.Col} (h : Wd.Cs w A n c cs) (hH : Alien w H) (mv : Wd.Mv H w w') : Wd.Cs w' A n c cs :=
  ⟨h.len, h.cap, h.max, h.nil, fun j hj => by
    obtain ⟨b, o, e, hlt, hc, h1⟩ := h.at_ j hj
    exact ⟨b, o, e, Nat.lt_of_lt_of_le hlt mv.size, fun i v hv => (keep_str hH mv hlt (hc 0 _ rfl) _).trans (hc i v hv), h1⟩⟩
theorem vs_alien {vs : List Vl} (h : Wd.Vs w A n c vs) (hH : Alien w H) (mv : Wd.Mv H w w') : Wd.Vs w' A n c vs :=
  ⟨h.len, h.cap, h.max, h.nil, fun j hj => by
    obtain ⟨b, o, e, hlt, hc, h1⟩ := h.at_ j hj
    exact ⟨b, o, e, Nat.lt_of_lt_of_le hlt mv.size, fun i v hv => (keep_str hH mv hlt (hc 2 _ rfl) _).trans (hc i v hv), h1⟩⟩
theorem sl_alien {ys : List Int} (h : Wd.Sl w .u64 A n c ys) (hH : Alien w H) (mv : Wd.Mv H w w') : Wd.Sl w' .u64 A n c ys :=
  ⟨h.len, h.cap, h.max, h.nil, fun j hj => by
    obtain ⟨b, o, e, hlt, hc⟩ := h.rd j hj
    exact ⟨b, o, e, Nat.lt_of_lt_of_le hlt mv.size, (World.cell?_of_block (a := ⟨b, o + j, none⟩) (mv.keep b hlt fun q => (hH b q _ _ hc).1 _ rfl)).trans hc⟩⟩
theorem st_alien {X : List Int} (h : Bw.St w A n c X) (hH : Alien w H) (mv : Wd.Mv H w w') : Bw.St w' A n c X := by
  obtain ⟨L, h1, h2⟩ := h
  exact ⟨L, sl_alien h1 hH mv, h2⟩
theorem st_below {X : List Int} (h : Bw.St w A n c X) (hb : Below w.heap.size w w') : Bw.St w' A n c X := by
  obtain ⟨L, h1, h2⟩ := h
  exact ⟨L, h1.below hb, h2⟩
theorem st_zero (w : World) : Bw.St w none 0 0 [] := ⟨[], Wd.Sl.none_ _ _, Bw.wo_nil, Bw.tr_nil, rfl⟩
end
/-- The set of a segment. -/
def SetAt (w : World) (X : List Int) : Option Value → Prop
  | none => X = []
  | some v => ∃ A n c, v = .agg #[.slice A n c] ∧ Bw.St w A n c X
/-- The winners of a segment. -/
def WinAt (w : World) (F : Nat → Prop) (bd bw bs N : Nat) (f : Vl → Option Value) : Option Value → Prop
  | none => ∀ v, f v = none
  | some x => ∃ b m, x = .map (some b) ∧ Mp kV w b m f ∧ m ≤ N ∧ F b ∧ b ≠ bd ∧ b ≠ bw ∧ b ≠ bs
/-- A table in memory: W v is the winner of v, sg v its segment, Dc g the numbers of the rows of segment g; at most N entries everywhere. -/
structure Lay (w : World) (t : Nat) (A : Option Addr) (n c : Nat) (s : Sch) (bd bw bs nd nw ns : Nat) (fd fw : Int → Option Value) (sg : Vl → Option Int) (W : Vl → Option Rw) (Dc : Int → List Int) (N : Nat) (F : Nat → Prop) : Prop where
  box : Wd.Bx w t 78 #[.slice A n c, .int .i64 s.key, .int .i64 s.cmp, .int .i64 s.del, .int .i64 s.sort, .map (some bd), .map (some bw), .map (some bs)]
  sch : Wd.Cs w A n c s.cols
  docs : Mp kI w bd nd fd
  wins : Mp kI w bw nw fw
  segs : Mp kV w bs ns (fun v => (sg v).map (Value.int .i64))
  dd : ∀ g, SetAt w (Dc g) (fd g)
  ii : ∀ g, WinAt w F bd bw bs N (inn W g) (fw g)
  ne : bd ≠ bw ∧ bd ≠ bs ∧ bw ≠ bs
  inj : ∀ g g' b, fw g = some (.map (some b)) → fw g' = some (.map (some b)) → g = g'
  ft : F t ∧ F bd ∧ F bw ∧ F bs
  fo : ∀ x, F x → x = t ∨ x = bd ∨ x = bw ∨ x = bs ∨ ∃ g, fw g = some (.map (some x))
  nn : nd ≤ N ∧ nw ≤ N ∧ ns ≤ N
section
variable {w w' : World} {t : Nat} {A : Option Addr} {n c : Nat} {s : Sch} {bd bw bs nd nw ns : Nat} {fd fw : Int → Option Value} {sg : Vl → Option Int} {W : Vl → Option Rw} {Dc : Int → List Int} {N : Nat} {F H : Nat → Prop}
theorem Lay.inner (h : Lay w t A n c s bd bw bs nd nw ns fd fw sg W Dc N F) {g : Int} {x : Nat} (hx : fw g = some (.map (some x))) : ∃ m, Mp kV w x m (inn W g) ∧ m ≤ N ∧ F x ∧ x ≠ bd ∧ x ≠ bw ∧ x ≠ bs := by
  have := h.ii g
  rw [hx] at this
  obtain ⟨b, m, e, r⟩ := this
  injection e with e
  injection e with e
  subst e
  exact ⟨m, r⟩
theorem Lay.lt (h : Lay w t A n c s bd bw bs nd nw ns fd fw sg W Dc N F) {x : Nat} (hx : F x) : x < w.heap.size := by
  rcases h.fo x hx with rfl | rfl | rfl | rfl | ⟨g, hg⟩
  · exact h.box.lt
  · exact h.docs.lt
  · exact h.wins.lt
  · exact h.segs.lt
  · obtain ⟨m, hm, _⟩ := h.inner hg
    exact hm.lt
theorem Lay.alien (h : Lay w t A n c s bd bw bs nd nw ns fd fw sg W Dc N F) : Alien w F := by
  intro x hx
  rcases h.fo x hx with rfl | rfl | rfl | rfl | ⟨g, hg⟩
  · exact alien_bx (cs := [.slice A n c, .int .i64 s.key, .int .i64 s.cmp, .int .i64 s.del, .int .i64 s.sort, .map (some bd), .map (some bw), .map (some bs)]) h.box (by simp)
  · exact alien_mp h.docs
  · exact alien_mp h.wins
  · exact alien_mp h.segs
  · obtain ⟨m, hm, _⟩ := h.inner hg
    exact alien_mp hm
/-- No map of a table is its record. -/
theorem Lay.tb (h : Lay w t A n c s bd bw bs nd nw ns fd fw sg W Dc N F) {α : Type} {k : TypeId} {K : Ky α k} {b m : Nat} {f : α → Option Value} (hm : Mp K w b m f) : t ≠ b := by
  rintro rfl
  obtain ⟨D, ⟨es, clock, hb, _⟩, _⟩ := hm
  have := h.box
  unfold Wd.Bx at this
  rw [hb] at this
  cases this
theorem SetAt.keep {X : List Int} {o : Option Value} (h : SetAt w X o) (hH : Alien w H) (mv : Wd.Mv H w w') : SetAt w' X o := by
  cases o with
  | none => exact h
  | some v =>
    obtain ⟨A, n, c, e, hs⟩ := h
    exact ⟨A, n, c, e, st_alien hs hH mv⟩
/-- It stays what it is where none of its blocks turns. -/
theorem Lay.keep (h : Lay w t A n c s bd bw bs nd nw ns fd fw sg W Dc N F) (hH : Alien w H) (mv : Wd.Mv H w w') (hF : ∀ x, F x → ¬ H x) : Lay w' t A n c s bd bw bs nd nw ns fd fw sg W Dc N F := by
  obtain ⟨f1, f2, f3, f4⟩ := h.ft
  have kp : ∀ x, F x → w'.heap[x]? = w.heap[x]? := fun x hx => mv.keep x (h.lt hx) (hF x hx)
  refine ⟨h.box.at_ (kp _ f1), cs_alien h.sch hH mv, h.docs.keep (kp _ f2), h.wins.keep (kp _ f3), h.segs.keep (kp _ f4), fun g => (h.dd g).keep hH mv, fun g => ?_, h.ne, h.inj, h.ft, h.fo, h.nn⟩
  have := h.ii g
  revert this
  cases fw g with
  | none => exact id
  | some v =>
    rintro ⟨b, m, e, hm, h1, h2, r⟩
    exact ⟨b, m, e, hm.keep (kp b h2), h1, h2, r⟩
theorem alien_none (w : World) : Alien w (fun _ => False) := fun _ h => h.elim
theorem Lay.below (h : Lay w t A n c s bd bw bs nd nw ns fd fw sg W Dc N F) (hb : Below w.heap.size w w') : Lay w' t A n c s bd bw bs nd nw ns fd fw sg W Dc N F :=
  h.keep (alien_none w) (Wd.Mv.of_below hb) (fun _ _ q => q)
theorem Lay.none_ (h : Lay w t A n c s bd bw bs nd nw ns fd fw sg W Dc N F) {g : Int} (hg : fw g = none) (v : Vl) : inn W g v = none := by
  have := h.ii g
  rw [hg] at this
  exact this v
theorem Lay.winv (h : Lay w t A n c s bd bw bs nd nw ns fd fw sg W Dc N F) (g : Int) : fw g = none ∨ ∃ b, fw g = some (.map (some b)) := by
  have := h.ii g
  rcases hq : fw g with _ | v
  · exact .inl rfl
  · rw [hq] at this
    obtain ⟨b, m, e, _⟩ := this
    exact .inr ⟨b, by rw [e]⟩
theorem Lay.setv (h : Lay w t A n c s bd bw bs nd nw ns fd fw sg W Dc N F) (g : Int) : ∃ A n c, (fd g).getD (.agg #[.slice none 0 0]) = .agg #[.slice A n c] ∧ Bw.St w A n c (Dc g) := by
  have := h.dd g
  rcases hq : fd g with _ | v
  · rw [hq] at this
    have h2 : Dc g = [] := this
    rw [h2]
    exact ⟨_, _, _, rfl, st_zero w⟩
  · rw [hq] at this
    obtain ⟨A, n, c, e, hs⟩ := this
    exact ⟨A, n, c, e, hs⟩
end
end Up
end Go.Proofs.YtpappcmgnnmbeaaDoor
namespace Go.Proofs.YtpappcmgnnmbeaaDoor
set_option maxRecDepth 20000
open Go.RowKit
namespace Vc
open Va
/-- A value as the program holds it. -/
def ownI (k i : Int) : Int := if k = 1 then i else 0
def ownS (k : Int) (s : ByteArray) : ByteArray := if k = 2 then s else ⟨#[]⟩
def ownB (k : Int) (b : Bool) : Bool := if k = 3 then b else false

theorem res_cell1 {fn : Func} {p : Tmp} {ty : TypeId} (h : fn.results = #[.cell p ty]) (tmps : Array Value) (P : Program) (w : World) :
    (results fn tmps).run P w = ((asAddr (tmps.getD p undef)).run P w).andThen fun a w₁ => (loadVar ty a).run P w₁ := by
  simp only [results, h]
  simp [Sem.run_bind, Result.andThen]
theorem res_cell3 {fn : Func} {p u v : Tmp} {ty : TypeId} (h : fn.results = #[.cell p ty, .tmp u, .tmp v]) (tmps : Array Value) (P : Program) (w : World) :
    (results fn tmps).run P w = ((asAddr (tmps.getD p undef)).run P w).andThen fun a w₁ => ((loadVar ty a).run P w₁).andThen fun x w₂ => .ok (.tuple #[x, tmps.getD u undef, tmps.getD v undef]) w₂ := by
  simp only [results, h]
  simp [Sem.run_bind, Result.andThen]

theorem own_any (k i : Int) (s : ByteArray) (b : Bool) (w : World) :
    Calls Tryd.prog 79 #[.agg #[.int .i64 k, .int .i64 i, .string s, .bool b]] w fun e w' => e = .returned (.agg #[.int .i64 k, .int .i64 (ownI k i), .string (ownS k s), .bool (ownB k b)]) ∧ Below w.heap.size w w' := by
  unfold ownI ownS ownB
  by_cases h1 : k = 1
  · subst h1
    go_enter Tryd.func79, Tryd.ntmps79
    go_wp2_with fail
    (try simp only [Exit.inBlock, Exit.then])
    refine bodyPost_ret (v := .agg #[.int .i64 1, .int .i64 i, .string ⟨#[]⟩, .bool false]) ?_ rfl ⟨rfl, ?_⟩
    · rw [res_cell1 rfl]; go_simp
    · repeat' (first | exact Below.refl _ _ | refine Below.setCell ?_ (by simp) _ | refine Below.alloc ?_ (by simp <;> omega) _)
  by_cases h2 : k = 2
  · subst h2
    go_enter Tryd.func79, Tryd.ntmps79
    go_wp2_with fail
    (try simp only [Exit.inBlock, Exit.then])
    refine bodyPost_ret (v := .agg #[.int .i64 2, .int .i64 0, .string s, .bool false]) ?_ rfl ⟨rfl, ?_⟩
    · rw [res_cell1 rfl]; go_simp
    · repeat' (first | exact Below.refl _ _ | refine Below.setCell ?_ (by simp) _ | refine Below.alloc ?_ (by simp <;> omega) _)
  by_cases h3 : k = 3
  · subst h3
    go_enter Tryd.func79, Tryd.ntmps79
    go_wp2_with fail
    (try simp only [Exit.inBlock, Exit.then])
    refine bodyPost_ret (v := .agg #[.int .i64 3, .int .i64 0, .string ⟨#[]⟩, .bool b]) ?_ rfl ⟨rfl, ?_⟩
    · rw [res_cell1 rfl]; go_simp
    · repeat' (first | exact Below.refl _ _ | refine Below.setCell ?_ (by simp) _ | refine Below.alloc ?_ (by simp <;> omega) _)
  rw [if_neg h1, if_neg h2, if_neg h3]
  have q1 : (k == 1) = false := by simpa using h1
  have q2 : (k == 2) = false := by simpa using h2
  have q3 : (k == 3) = false := by simpa using h3
  go_enter Tryd.func79, Tryd.ntmps79
  go_wp2_with fail
  (try simp only [Exit.inBlock, Exit.then])
  refine bodyPost_ret (v := .agg #[.int .i64 k, .int .i64 0, .string ⟨#[]⟩, .bool false]) ?_ rfl ⟨rfl, ?_⟩
  · rw [res_cell1 rfl]; go_simp
  · repeat' (first | exact Below.refl _ _ | refine Below.setCell ?_ (by simp) _ | refine Below.alloc ?_ (by simp <;> omega) _)
/-- The byte of a truth. -/
def dg (b : Bool) : Int := if b then 1 else 0
/-- A value's block. -/
def Vb (w : World) (g : Nat) (k i : Int) (s : ByteArray) (b : Bool) : Prop := Wd.Bx w g 27 #[.int .i64 k, .int .i64 i, .string s, .bool b]
theorem four {w : World} {g : Nat} {k i : Int} {s : ByteArray} {b : Bool} (h : Vb w g k i s b) :
    (w.cell? ⟨g, 0, none⟩ = some (.int .i64 k) ∧ w.cell? ⟨g, 1, none⟩ = some (.int .i64 i) ∧ w.cell? ⟨g, 2, none⟩ = some (.string s) ∧ w.cell? ⟨g, 3, none⟩ = some (.bool b))
    ∧ (w.frozen? ⟨g, 0, none⟩ = false ∧ w.frozen? ⟨g, 1, none⟩ = false ∧ w.frozen? ⟨g, 2, none⟩ = false ∧ w.frozen? ⟨g, 3, none⟩ = false) :=
  ⟨⟨(Wd.Bx.cell h 0).trans rfl, (Wd.Bx.cell h 1).trans rfl, (Wd.Bx.cell h 2).trans rfl, (Wd.Bx.cell h 3).trans rfl⟩, Wd.Bx.free h 0, Wd.Bx.free h 1, Wd.Bx.free h 2, Wd.Bx.free h 3⟩
/-- A value's block is written whole. -/
def setV (w : World) (g : Nat) (k i : Int) (s : ByteArray) (b : Bool) : World := (((w.setCell ⟨g, 0, none⟩ (.int .i64 k)).setCell ⟨g, 1, none⟩ (.int .i64 i)).setCell ⟨g, 2, none⟩ (.string s)).setCell ⟨g, 3, none⟩ (.bool b)
theorem Vb.set {w : World} {g : Nat} {k i k' i' : Int} {s s' : ByteArray} {b b' : Bool} (h : Vb w g k i s b) : Vb (setV w g k' i' s' b') g k' i' s' b' := by
  have h1 := heap_setCell_same w g 0 _ _ (.int .i64 k') h
  have h2 := heap_setCell_same _ g 1 _ _ (.int .i64 i') h1
  have h3 := heap_setCell_same _ g 2 _ _ (.string s') h2
  have h4 := heap_setCell_same _ g 3 _ _ (.bool b') h3
  exact h4
theorem Vb.other {w : World} {g g' : Nat} {k i k' i' : Int} {s s' : ByteArray} {b b' : Bool} (h : Vb w g k i s b) (hg : g ≠ g') : Vb (setV w g' k' i' s' b') g k i s b := by
  unfold Vb Wd.Bx setV
  rw [heap_setCell_other _ _ _ _ hg, heap_setCell_other _ _ _ _ hg, heap_setCell_other _ _ _ _ hg, heap_setCell_other _ _ _ _ hg]
  exact h
theorem below_setV {B : Nat} {w w' : World} {g : Nat} {k i : Int} {s : ByteArray} {b : Bool} (h : Below B w w') (hg : B ≤ g) : Below B w (setV w' g k i s b) :=
  (((h.setCell hg _).setCell hg _).setCell hg _).setCell hg _

end Vc
end Go.Proofs.YtpappcmgnnmbeaaDoor
namespace Go.Proofs.YtpappcmgnnmbeaaDoor
set_option maxRecDepth 20000
open Go.RowKit
namespace Vc
open Va
theorem nanI_any (x : Int) (w : World) :
    Calls Tryd.prog 85 #[.int .i64 x] w fun e w' => e = .returned (.bool false) ∧ w' = w := by
  go_enter Tryd.func85, Tryd.ntmps85
  go_wp2_with fail
  go_ret
  exact ⟨by simp, rfl⟩
theorem cmpI_any (x y : Int) (w : World) :
    Calls Tryd.prog 81 #[.int .i64 x, .int .i64 y] w fun e w' => e = .returned (.int .i64 (cmpI x y)) ∧ w' = w := by
  have n1 := nanI_any x w
  have n2 := nanI_any y w
  by_cases h1 : x < y
  · have e : cmpI x y = -1 := by unfold cmpI; simp [h1, way]
    rw [e]
    go_enter Tryd.func81, Tryd.ntmps81
    go_wp2_with fail
    refine n1.mono ?_
    rintro _ _ ⟨rfl, rfl⟩
    go_wp2_with fail
    refine n2.mono ?_
    rintro _ _ ⟨rfl, rfl⟩
    go_wp2_with fail
    go_ret
    exact ⟨rfl, rfl⟩
  by_cases h2 : y < x
  · have e : cmpI x y = 1 := by unfold cmpI; simp [h1, h2, way]
    rw [e]
    go_enter Tryd.func81, Tryd.ntmps81
    go_wp2_with fail
    refine n1.mono ?_
    rintro _ _ ⟨rfl, rfl⟩
    go_wp2_with fail
    refine n2.mono ?_
    rintro _ _ ⟨rfl, rfl⟩
    go_wp2_with fail
    go_ret
    exact ⟨rfl, rfl⟩
  · have e : cmpI x y = 0 := by unfold cmpI; simp [h1, h2, way]
    rw [e]
    go_enter Tryd.func81, Tryd.ntmps81
    go_wp2_with fail
    refine n1.mono ?_
    rintro _ _ ⟨rfl, rfl⟩
    go_wp2_with fail
    refine n2.mono ?_
    rintro _ _ ⟨rfl, rfl⟩
    go_wp2_with fail
    go_ret
    exact ⟨rfl, rfl⟩
/-- The first of some numbers that is not zero. -/
def fstN : List Int → Int
  | [] => 0
  | x :: r => if x = 0 then fstN r else x
theorem fstN_drop (l : List Int) (k : Nat) (h : k < l.length) : fstN (l.drop k) = if l.getD k 0 = 0 then fstN (l.drop (k + 1)) else l.getD k 0 := by
  rw [List.drop_eq_getElem_cons h, fstN]
  simp [List.getD, List.getElem?_eq_getElem h]
theorem or_any (A : Option Addr) (n c : Nat) (l : List Int) (w : World) (hS : Wd.Sl w .i64 A n c l) (hm : n ≤ 1000000) :
    Calls Tryd.prog 80 #[.slice A n c] w fun e w' => e = .returned (.int .i64 (fstN l)) ∧ w' = w := by
  have Hl := Lib.hid hS.len
  have hcap := hS.cap
  obtain ⟨z, hz⟩ : ∃ z, z = fstN l := ⟨_, rfl⟩
  rw [← hz]
  have Hz := Lib.hid hz
  clear hz
  go_enter Tryd.func80, Tryd.ntmps80
  go_wp2
  go_loopw [5, 8] (fun _ i wr => ∃ k : Nat, i = .int .i64 k ∧ k ≤ n ∧ Hid (fstN (l.drop k) = z) ∧ wr = w) (fun _ i _ => n - (intOf i).toNat)
  case atStart => exact ⟨0, rfl, Nat.zero_le _, Lib.hid (by rw [Hz.out]; rfl), rfl⟩
  case round =>
    obtain ⟨k, rfl, hk, hf, rfl⟩ := hrel
    by_cases hlt : k < n
    · obtain ⟨b, o, rfl, hbB, hcell⟩ := hS.rd k (by rw [← Hl.out]; exact hlt)
      have hst := fstN_drop l k (by rw [← Hl.out]; exact hlt)
      rw [hf.out] at hst
      obtain ⟨x, hx⟩ : ∃ x, x = l.getD k 0 := ⟨_, rfl⟩
      rw [← hx] at hcell hst
      have Hx := Lib.hid hst
      clear hst hx hf
      by_cases h0 : x = 0
      · go_wp2_with fail
        go_roundw
        case rel => exact ⟨k + 1, by go_num, by omega, Lib.hid (by rw [Hx.out, if_pos h0]), by first | rfl | trivial⟩
        case measure => simp [intOf]; omega
      · go_wp2_with fail
        go_ret
        exact ⟨by rw [Hx.out, if_neg h0]; rfl, rfl⟩
    · have hkI : ¬ (k : Int) < n := by omega
      have e : z = 0 := by
        rw [← hf.out, List.drop_of_length_le (by rw [← Hl.out]; omega)]
        rfl
      have He := Lib.hid e
      clear e
      go_wp2_with fail
      go_ret
      exact ⟨by rw [He.out]; rfl, rfl⟩
end Vc
end Go.Proofs.YtpappcmgnnmbeaaDoor
