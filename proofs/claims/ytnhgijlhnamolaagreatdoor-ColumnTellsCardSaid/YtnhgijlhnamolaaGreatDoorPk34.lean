/- Package bitset: Or. Package bitset: Not. Package bitset: Count; math/bits' OnesCount64. What the condition on the package-level variable gives a walk: the table of math/bits, cell by cell. From an argument as the statement reads it to the words of this seat: a slice of integers. Words on memory: a slice of columns (a name, a kind, a truth); from an argument as the statement reads it to a schema. Over any program. The type of a schema, at this program. From an argument as the statement reads it to a column. -/
import Derived.Laws.CopyOwn
import Derived.OpenShut
import Derived.LaidHandle
import Derived.Stop.Joined
import Derived.ProofKit
import Derived.Deep.Slices
import Derived.Lib.SmallJoins
import Derived.Test.YtnhgijlhnamolaaGreatDoorPk18
import Derived.Test.YtnhgijlhnamolaaGreatDoorPk26
import Derived.Test.YtnhgijlhnamolaaGreatDoorPk17
import Derived.Test.YtnhgijlhnamolaaGreatDoorPk27
import Derived.Test.YtnhgijlhnamolaaGreatDoorRows
import Derived.Test.YtnhgijlhnamolaaGreatDoorPk02
import Derived.Test.YtnhgijlhnamolaaGreatDoorPk05
import Derived.Test.YtnhgijlhnamolaaGreatDoorProg
import Derived.Test.YtnhgijlhnamolaaGreatDoorPk07
import Derived.Test.YtnhgijlhnamolaaGreatDoorPk06
namespace Go.Proofs.YtnhgijlhnamolaaGreatDoor
set_option maxRecDepth 20000
open Go.RowKit
namespace Bw
open Bs Bx Bi
/-- A row of the call's own that has no spare room, as its block holds it. -/
theorem ow_full {w : World} {B g z : Nat} {L : List Nat} (h : Ow w B (.slice (some ⟨g, 0, none⟩) z z) L) (hz : L.length = z) : w.heap[g]? = some (.cells ((nat L).map (Value.int .u64)).toArray 76) := by
  subst hz
  rcases h.2 with ⟨hq, _⟩ | ⟨g', cap', cur, hq, hb, hg, h1, h2, h3, h4⟩
  · cases hq
  · simp only [Value.slice.injEq, Option.some.injEq, Addr.mk.injEq, and_true, true_and] at hq
    obtain ⟨rfl, rfl⟩ := hq
    rw [hg, ← h4, List.take_of_length_le (by simp [h3])]
theorem full_ow {w : World} {B g z : Nat} {L : List Nat} (hg : w.heap[g]? = some (.cells ((nat L).map (Value.int .u64)).toArray 76)) (hB : B ≤ g) (hz : L.length = z) (hm : z ≤ maxLen) : Ow w B (.slice (some ⟨g, 0, none⟩) z z) L := by
  subst hz
  exact ⟨by simp [nat_len], .inr ⟨g, _, _, rfl, hB, hg, Nat.le_refl _, hm, by simp [nat_len], by rw [List.take_of_length_le (by simp [nat_len])]⟩⟩
theorem splice_pad (L : List Nat) (z : Nat) (_h : L.length ≤ z) : splice ((nat (List.replicate z 0)).map (Value.int .u64)) 0 ((nat L).map (Value.int .u64)) = (nat (pad L z)).map (Value.int .u64) := by
  unfold splice pad
  rw [← nat_app, List.map_append, nat_rep, nat_rep]
  simp [nat_len]
theorem cpos {w : World} {A : Option Addr} {n c : Nat} {L : List Nat} {o : Addr} (h : Wd.Sl w .u64 A n c (nat L)) (hp : 0 < ((nat L).map (Value.int .u64)).length) : some o = some o ∧ ∃ ad, A = some ad ∧ ∀ j v, ((nat L).map (Value.int .u64))[j]? = some v → w.cell? (ad.add j) = some v := by
  refine ⟨rfl, ?_⟩
  obtain ⟨b, o, rfl, hb, -⟩ := h.rd 0 (by simpa using hp)
  refine ⟨_, rfl, fun j v hv => ?_⟩
  rw [List.getElem?_map] at hv
  by_cases q : j < (nat L).length
  · obtain ⟨b', o', e, -, hc⟩ := h.rd j q
    cases e
    rw [List.getElem?_eq_getElem q] at hv
    cases hv
    rw [Addr.add_lit, hc]
    simp [List.getD, List.getElem?_eq_getElem q]
  · rw [List.getElem?_eq_none (by omega)] at hv
    cases hv
end Bw
end Go.Proofs.YtnhgijlhnamolaaGreatDoor
namespace Go.Proofs.YtnhgijlhnamolaaGreatDoor
set_option maxRecDepth 20000
open Go.RowKit
namespace Bw
open Bs Bx Bi
theorem Ow.at {w : World} {B n c : Nat} {A : Option Addr} {L : List Nat} (h : Ow w B (.slice A n c) L) (hL : 0 < L.length) : ∃ g, A = some ⟨g, 0, none⟩ ∧ B ≤ g := by
  obtain ⟨g, c', e, hB, -⟩ := h.shape hL
  cases e
  exact ⟨g, rfl, hB⟩
theorem Ow.len {w : World} {B n c : Nat} {A : Option Addr} {L : List Nat} (h : Ow w B (.slice A n c) L) : n = L.length ∧ n ≤ c ∧ c ≤ maxLen := by
  obtain ⟨A', n', c', e, hS⟩ := h.sl
  cases e
  exact ⟨by rw [hS.len, nat_len], hS.cap, hS.max⟩
end Bw
end Go.Proofs.YtnhgijlhnamolaaGreatDoor
namespace Go.Proofs.YtnhgijlhnamolaaGreatDoor
set_option maxRecDepth 20000
open Go.RowKit
namespace Bw
open Bs Bx Bi
theorem and_i64 (a : Nat) (ha : a < 9223372036854775808) : bits .and .i64 (a : Int) 127 = ((a % 128 : Nat) : Int) := by
  have h1 : (BitVec.ofInt 64 (a : Int)).toNat = a := by
    rw [BitVec.ofInt_natCast, BitVec.toNat_ofNat]; exact Nat.mod_eq_of_lt (by omega)
  have h2 : (BitVec.ofInt 64 (127 : Int)).toNat = 127 := by decide
  show IntKind.i64.wrap ((BitVec.ofInt 64 (a : Int) &&& BitVec.ofInt 64 (127 : Int)).toNat : Int) = _
  rw [BitVec.toNat_and, h1, h2, show (127 : Nat) = 2 ^ 7 - 1 by rfl, Nat.and_two_pow_sub_one_eq_mod, IntKind.wrap_i64]
  omega
theorem sum_next (L : List Nat) (q : Nat) (h : q < L.length) : ((L.take (q + 1)).map pop).sum = ((L.take q).map pop).sum + pop (L.getD q 0) := by
  rw [List.take_succ_eq_append_getElem h, List.map_append, List.sum_append]
  simp [List.getD, h]
end Bw
end Go.Proofs.YtnhgijlhnamolaaGreatDoor
namespace Go.Proofs.YtnhgijlhnamolaaGreatDoor
set_option maxRecDepth 20000
open Go.ChangeShapes Go.WideShapes Go.RowKit
namespace Bw
open Bs Bx Bi
theorem gT : Tryz.prog.globalNamed "math/bits.deBruijn64tab" = some 0 := by kernel_rfl
theorem tT : (Tryz.prog.globals[0]?).map (·.type) = some 98 := by kernel_rfl
theorem c8 : Tryz.prog.cellsOf 5 = 1 := by kernel_rfl
theorem tab_of_laid {W : World} (h : laidMetH Tryz.prog [("math/bits.deBruijn64tab", Rows.laid_math_bits_deBruijn64tab)] W) : Tab W := by
  have h' : laidMet Tryz.prog [("math/bits.deBruijn64tab", Rows.laid_math_bits_deBruijn64tab)] W := h
  obtain ⟨ps, ⟨g, t, cs, fuel, p, q, hg, ht, hv, hd, _, _⟩, _, _⟩ := h'
  obtain rfl := Option.some.inj (gT.symm.trans hg)
  obtain rfl := Option.some.inj (tT.symm.trans ht)
  obtain ⟨xs, m, rfl, hx, hl, hn, hi⟩ := DataW.trod_array Tryz.underlying98 hd
  have hm : xs.map (·.1) = Lib.deBruijn64tab.map fun (k : Nat) => (DataW.lit (.int .u8 (k : Int)) : DataW Unit) := by
    have e := (congrArg Prod.fst hx).symm
    exact DataW.agg.inj e
  intro j hj
  have h1 := hi j hj
  have hjx : j < xs.length := by rw [hn]; exact hj
  rw [List.getElem?_eq_getElem hjx, c8, Nat.mul_one] at h1
  obtain ⟨k, e1, e2, _⟩ := DataW.trod_int Tryz.underlying5 h1
  have e3 := congrArg (fun l : List (DataW Unit) => l[j]?) hm
  simp only [List.getElem?_map, List.getElem?_eq_getElem hjx, Option.map_some, e2] at e3
  have hjt : j < Lib.deBruijn64tab.length := hj
  rw [List.getElem?_eq_getElem hjt, Option.map_some] at e3
  simp only [Option.some.injEq, DataW.lit.injEq, Lit.int.injEq, true_and] at e3
  rw [World.var?_cell gT hv j, List.getD_eq_getElem?_getD, List.getElem?_eq_getElem hjt, Option.getD_some, ← e3]
  have e4 := congrArg (fun l : List Value => l[0]?) e1
  simp only [List.getElem?_cons_zero] at e4
  rw [List.getElem?_take, List.getElem?_drop] at e4
  simpa using e4
/-- What the rows list of the package-level variables. -/
abbrev ls : List (String × DataW Unit) := [("math/bits.deBruijn64tab", Rows.laid_math_bits_deBruijn64tab)]
end Bw
end Go.Proofs.YtnhgijlhnamolaaGreatDoor
namespace Go.Proofs.YtnhgijlhnamolaaGreatDoor
set_option maxRecDepth 20000
open Go.RowKit Go.ChangeShapes Go.WideShapes
namespace Wd
theorem open_sl {H : Type} {enc : TypeId × Value → H} {P : Program} {W : World} {r : Reach} {base0 base : Nat} {spare : Nat → Bool} {held : Bool} {t e : TypeId} {k : IntKind} {v : Value} {d : DataW H} {ps : List MemPlace}
    (ht : P.underlying t = some (.slice e)) (he : P.underlying e = some (.int k)) (hc : P.cellsOf e = 1) (hok : Value.okWide P W r base0 t v) (h : DataW.Trod enc P W base spare held t v d ps) :
    ∃ A n c xs, v = .slice A n c ∧ Sl W k A n c xs ∧ Fits k xs := by
  obtain ⟨A, n, c, rfl⟩ := okWide_slice ht hok
  obtain ⟨fuel, hf⟩ := h
  rcases open_ints ht he hc hf with ⟨hcs, _⟩ | ⟨x, l, cc, zs, hcs, _, hl, hm, hz, _, hcell, hwz⟩
  · simp [Value.cells] at hcs
    obtain ⟨rfl, rfl, rfl⟩ := hcs
    exact ⟨none, 0, 0, [], rfl, Sl.none_ _ _, fun x hx => by simp at hx⟩
  · simp [Value.cells] at hcs
    obtain ⟨rfl, rfl, rfl⟩ := hcs
    have hlz : n ≤ zs.length := by rw [hz]; split <;> omega
    refine ⟨_, _, _, zs.take n, rfl, ⟨by simp [hlz], hl, hm, by simp, ?_⟩, fun y hy => hwz y (List.mem_of_mem_take hy)⟩
    refine Rd.take (fun j hj => ?_) n
    obtain ⟨b, o, rfl, h1⟩ := ints_at hcell (by omega)
    have h2 := h1 j hj
    exact ⟨b, o, rfl, World.block_lt_of_cell? W ⟨b, o + j, none⟩ h2, h2⟩
end Wd
end Go.Proofs.YtnhgijlhnamolaaGreatDoor
namespace Go.Proofs.YtnhgijlhnamolaaGreatDoor
set_option maxRecDepth 20000
open Go.RowKit Go.ChangeShapes Go.WideShapes
namespace Wd
open Sc (Col Sch)
instance : Inhabited Col := ⟨⟨⟨#[]⟩, 0, false⟩⟩
def colVals (o : Col) : List Value := [.string o.name, .int .i64 o.kind, .bool o.nul]
/-- Its number is the machine's, and its name no longer than any text. -/
structure Col1 (o : Col) : Prop where
  w0 : (Lit.int .i64 o.kind).wf = true
  w1 : o.name.size ≤ maxLen
/-- The slice value of address A, length n and capacity c holds the columns os. -/
structure Cs (w : World) (A : Option Addr) (n c : Nat) (os : List Col) : Prop where
  len : n = os.length
  cap : n ≤ c
  max : c ≤ maxLen
  nil : A = none → c = 0
  at_ : ∀ j, j < os.length → ∃ b o, A = some ⟨b, o, none⟩ ∧ b < w.heap.size ∧ (∀ i v, (colVals (os.getD j default))[i]? = some v → w.cell? ⟨b, o + (j * 3 + i), none⟩ = some v) ∧ Col1 (os.getD j default)
section
variable {w w' : World} {A : Option Addr} {n c : Nat} {os : List Col} {o : Col}
theorem Cs.below (h : Cs w A n c os) (hb : Below w.heap.size w w') : Cs w' A n c os :=
  ⟨h.len, h.cap, h.max, h.nil, fun j hj => by
    obtain ⟨b, o, e, hlt, hc, h1⟩ := h.at_ j hj
    exact ⟨b, o, e, Nat.lt_of_lt_of_le hlt hb.size, fun i v hv => (hb.cell (p := ⟨b, o + (j * 3 + i), none⟩) hlt).trans (hc i v hv), h1⟩⟩
theorem Cs.none_ (w : World) : Cs w none 0 0 [] := ⟨rfl, Nat.le_refl _, Nat.zero_le _, fun _ => rfl, fun _ h => by simp at h⟩
/-- The cells of the j-th. -/
theorem Cs.cells (h : Cs w A n c os) {j : Nat} (hj : j < os.length) {o : Col} (ho : o = os.getD j default) : ∃ b f, A = some ⟨b, f, none⟩ ∧ b < w.heap.size ∧ w.cell? ⟨b, f + j * 3, none⟩ = some (.string o.name) ∧ w.cell? ⟨b, f + j * 3 + 1, none⟩ = some (.int .i64 o.kind) ∧
    w.cell? ⟨b, f + j * 3 + 2, none⟩ = some (.bool o.nul) ∧ Col1 o := by
  subst ho
  obtain ⟨b, f, e, hlt, hc, h1⟩ := h.at_ j hj
  exact ⟨b, f, e, hlt, hc 0 _ rfl, by rw [Nat.add_assoc]; exact hc 1 _ rfl, by rw [Nat.add_assoc]; exact hc 2 _ rfl, h1⟩
end

section
variable {H : Type} {enc : TypeId × Value → H} {P : Program} {W : World} {r : Reach} {base0 base : Nat} {spare : Nat → Bool} {held : Bool}
/-- The type of a column: its three fields. -/
structure ColT (P : Program) (t : TypeId) (f0 f1 f2 : Field) : Prop where
  u : P.underlying t = some (.struct #[f0, f1, f2])
  c : P.cellsOf t = 3
  o0 : f0.offset = 0
  o1 : f1.offset = 1
  o2 : f2.offset = 2
  c0 : P.cellsOf f0.type = 1
  c1 : P.cellsOf f1.type = 1
  c2 : P.cellsOf f2.type = 1
  u0 : P.underlying f0.type = some .string
  u1 : P.underlying f1.type = some (.int .i64)
  u2 : P.underlying f2.type = some .bool
theorem open_col1 {t : TypeId} {f0 f1 f2 : Field} (T : ColT P t f0 f1 f2) {fuel : Nat} {cs : List Value} {x : DataW H × List MemPlace} (hl : cs.length = 3) (h : DataW.trod enc P W base spare held fuel t cs = some x) :
    ∃ o : Col, cs = colVals o ∧ Col1 o := by
  obtain ⟨xs, k, hk, hxy, _, hxl, hf⟩ := DataW.trod_struct T.u h
  match xs, hxl, cs, hl with
  | [y0, y1, y2], _, [v0, v1, v2], _ =>
    have g0 := hf 0 f0 rfl
    have g1 := hf 1 f1 rfl
    have g2 := hf 2 f2 rfl
    simp [T.o0, T.o1, T.o2, T.c0, T.c1, T.c2] at g0 g1 g2
    obtain ⟨s, z0, _, w0⟩ := DataW.trod_string T.u0 g0
    obtain ⟨a1, z1, _, w1⟩ := DataW.trod_int T.u1 g1
    obtain ⟨b, z2, _⟩ := DataW.trod_bool T.u2 g2
    simp only [List.cons.injEq, and_true] at z0 z1 z2
    subst z0 z1 z2
    exact ⟨⟨s, a1, b⟩, rfl, ⟨w1, w0⟩⟩
/-- A slice of columns, off the reading of it. -/
theorem open_cs1 {t e : TypeId} {f0 f1 f2 : Field} (ht : P.underlying t = some (.slice e)) (T : ColT P e f0 f1 f2) {fuel : Nat} {A : Option Addr} {n c : Nat} {x : DataW H × List MemPlace} (hf : DataW.trod enc P W base spare held fuel t [.slice A n c] = some x) :
    ∃ os, Cs W A n c os := by
  rcases Go.Deep.open_slice ht hf with ⟨hcs, _⟩ | ⟨a, len, cap, m, k, D, Pl, hcs, _, hl, hm, hmm, _, hx⟩
  · simp at hcs
    obtain ⟨rfl, rfl, rfl⟩ := hcs
    exact ⟨[], Cs.none_ _⟩
  · simp at hcs
    obtain ⟨rfl, rfl, rfl⟩ := hcs
    have hnm : n ≤ m := by rw [hmm]; split <;> omega
    rw [T.c] at hx
    obtain ⟨Y, hY⟩ := Go.Deep.choose_lt (α := Col) (n := n) (p := fun i y => (∀ j v, (colVals y)[j]? = some v → W.cell? (a.add (i * 3 + j)) = some v) ∧ Col1 y) (fun i hi => by
      obtain ⟨cs', h1, h2⟩ := hx i (by omega)
      obtain ⟨_, hlen, hcell⟩ := World.cells?_some h1
      obtain ⟨o, e1, h3⟩ := open_col1 T hlen h2
      refine ⟨o, fun j v hv => ?_, h3⟩
      have hj : j < 3 := by
        have := (List.getElem?_eq_some_iff.1 hv).1
        simpa [colVals] using this
      have h4 := hcell j hj
      rw [Go.Deep.add_add, e1, hv] at h4
      exact h4)
    refine ⟨(List.range n).map Y, ⟨by simp, hl, hm, by simp, fun j hj => ?_⟩⟩
    simp only [List.length_map, List.length_range] at hj
    have hg : ((List.range n).map Y).getD j default = Y j := by simp [List.getD, hj]
    obtain ⟨h1, h2⟩ := hY j hj
    obtain ⟨b, off, spot⟩ := a
    have hs : spot = none := by simpa [Addr.add] using World.cell?_spot ((hY 0 (by omega)).1 0 _ rfl)
    subst hs
    have h5 := h1 0 _ rfl
    rw [Addr.add_lit] at h5
    refine ⟨b, off, rfl, World.block_lt_of_cell? W ⟨b, off + (j * 3 + 0), none⟩ h5, fun i v hv => ?_, by rw [hg]; exact h2⟩
    rw [hg] at hv
    have := h1 i v hv
    rwa [Addr.add_lit] at this
/-- The type of a schema: its five fields. -/
structure SchT (P : Program) (t : TypeId) (f0 f1 f2 f3 f4 : Field) (e : TypeId) (g0 g1 g2 : Field) : Prop where
  u : P.underlying t = some (.struct #[f0, f1, f2, f3, f4])
  c : P.cellsOf t = 5
  o0 : f0.offset = 0
  o1 : f1.offset = 1
  o2 : f2.offset = 2
  o3 : f3.offset = 3
  o4 : f4.offset = 4
  c0 : P.cellsOf f0.type = 1
  c1 : P.cellsOf f1.type = 1
  c2 : P.cellsOf f2.type = 1
  c3 : P.cellsOf f3.type = 1
  c4 : P.cellsOf f4.type = 1
  u0 : P.underlying f0.type = some (.slice e)
  u1 : P.underlying f1.type = some (.int .i64)
  u2 : P.underlying f2.type = some (.int .i64)
  u3 : P.underlying f3.type = some (.int .i64)
  u4 : P.underlying f4.type = some (.int .i64)
  k : ColT P e g0 g1 g2
theorem trod_slice_one {t e : TypeId} (ht : P.underlying t = some (.slice e)) {fuel : Nat} {v : Value} {x : DataW H × List MemPlace} (h : DataW.trod enc P W base spare held fuel t [v] = some x) : ∃ A n c, v = .slice A n c := by
  rcases Go.Deep.open_slice ht h with ⟨hcs, _⟩ | ⟨a, len, cap, m, k, D, Pl, hcs, _⟩
  · simp only [List.cons.injEq, and_true] at hcs
    exact ⟨_, _, _, hcs⟩
  · simp only [List.cons.injEq, and_true] at hcs
    exact ⟨_, _, _, hcs⟩
/-- A schema's numbers are the machine's. -/
structure Sch1 (s : Sch) : Prop where
  w1 : (Lit.int .i64 s.key).wf = true
  w2 : (Lit.int .i64 s.cmp).wf = true
  w3 : (Lit.int .i64 s.del).wf = true
  w4 : (Lit.int .i64 s.sort).wf = true
theorem open_sch {t : TypeId} {f0 f1 f2 f3 f4 : Field} {e : TypeId} {g0 g1 g2 : Field} (T : SchT P t f0 f1 f2 f3 f4 e g0 g1 g2) {v : Value} {d : DataW H} {ps : List MemPlace} (hok : Value.okWide P W r base0 t v) (h : DataW.Trod enc P W base spare held t v d ps) :
    ∃ A n c s, v = .agg #[.slice A n c, .int .i64 s.key, .int .i64 s.cmp, .int .i64 s.del, .int .i64 s.sort] ∧ Cs W A n c s.cols ∧ Sch1 s := by
  obtain ⟨cs, rfl, hsz⟩ := okWide_struct T.u hok
  obtain ⟨fuel, h⟩ := h
  obtain ⟨xs, k, hk, hxy, _, hxl, hf⟩ := DataW.trod_struct T.u h
  have hl : cs.toList.length = 5 := by simpa [T.c] using hsz
  simp only [Value.cells] at hf
  obtain ⟨ls⟩ := cs
  simp only [] at hl hf
  match xs, hxl, ls, hl with
  | [y0, y1, y2, y3, y4], _, [v0, v1, v2, v3, v4], _ =>
    have q0 := hf 0 f0 rfl
    have q1 := hf 1 f1 rfl
    have q2 := hf 2 f2 rfl
    have q3 := hf 3 f3 rfl
    have q4 := hf 4 f4 rfl
    simp [T.o0, T.o1, T.o2, T.o3, T.o4, T.c0, T.c1, T.c2, T.c3, T.c4] at q0 q1 q2 q3 q4
    obtain ⟨A, n, c, rfl⟩ := trod_slice_one T.u0 q0
    obtain ⟨os, hc⟩ := open_cs1 T.u0 T.k q0
    obtain ⟨a1, z1, _, w1⟩ := DataW.trod_int T.u1 q1
    obtain ⟨a2, z2, _, w2⟩ := DataW.trod_int T.u2 q2
    obtain ⟨a3, z3, _, w3⟩ := DataW.trod_int T.u3 q3
    obtain ⟨a4, z4, _, w4⟩ := DataW.trod_int T.u4 q4
    simp only [List.cons.injEq, and_true] at z1 z2 z3 z4
    subst z1 z2 z3 z4
    exact ⟨A, n, c, ⟨os, a1, a2, a3, a4⟩, rfl, hc, ⟨w1, w2, w3, w4⟩⟩
end
end Wd
end Go.Proofs.YtnhgijlhnamolaaGreatDoor
namespace Go.Proofs.YtnhgijlhnamolaaGreatDoor
set_option maxRecDepth 20000
namespace Wd
end Wd
end Go.Proofs.YtnhgijlhnamolaaGreatDoor
namespace Go.Proofs.YtnhgijlhnamolaaGreatDoor
set_option maxRecDepth 20000
open Go.RowKit Go.ChangeShapes Go.WideShapes
namespace Wd
open Va (Vl)
section
variable {H : Type} {enc : TypeId × Value → H} {P : Program} {W : World} {r : Reach} {base0 base : Nat} {spare : Nat → Bool} {held : Bool}
theorem open_v1s {t : TypeId} {f0 f1 f2 f3 : Field} (T : VlT P t f0 f1 f2 f3) {fuel : Nat} {cs : List Value} {x : DataW H × List MemPlace} (hl : cs.length = 4) (h : DataW.trod enc P W base spare held fuel t cs = some x) :
    ∃ o : Vl, cs = vals o ∧ V1 o ∧ o.s.size ≤ maxLen := by
  obtain ⟨xs, k, hk, hxy, _, hxl, hf⟩ := DataW.trod_struct T.u h
  match xs, hxl, cs, hl with
  | [y0, y1, y2, y3], _, [v0, v1, v2, v3], _ =>
    have g0 := hf 0 f0 rfl
    have g1 := hf 1 f1 rfl
    have g2 := hf 2 f2 rfl
    have g3 := hf 3 f3 rfl
    simp [T.o0, T.o1, T.o2, T.o3, T.c0, T.c1, T.c2, T.c3] at g0 g1 g2 g3
    obtain ⟨a0, z0, _, w0⟩ := DataW.trod_int T.u0 g0
    obtain ⟨a1, z1, _, w1⟩ := DataW.trod_int T.u1 g1
    obtain ⟨s, z2, _, w2⟩ := DataW.trod_string T.u2 g2
    obtain ⟨b, z3, _⟩ := DataW.trod_bool T.u3 g3
    simp only [List.cons.injEq, and_true] at z0 z1 z2 z3
    subst z0 z1 z2 z3
    exact ⟨⟨a0, a1, s, b⟩, rfl, ⟨w0, w1⟩, w2⟩
theorem open_vs1 {t e : TypeId} {f0 f1 f2 f3 : Field} (ht : P.underlying t = some (.slice e)) (T : VlT P e f0 f1 f2 f3) {fuel : Nat} {A : Option Addr} {n c : Nat} {x : DataW H × List MemPlace} (hf : DataW.trod enc P W base spare held fuel t [.slice A n c] = some x) :
    ∃ os, Vs W A n c os ∧ ∀ o ∈ os, o.s.size ≤ maxLen := by
  rcases Go.Deep.open_slice ht hf with ⟨hcs, _⟩ | ⟨a, len, cap, m, k, D, Pl, hcs, _, hl, hm, hmm, _, hx⟩
  · simp at hcs
    obtain ⟨rfl, rfl, rfl⟩ := hcs
    exact ⟨[], Vs.none_ _, fun o ho => by cases ho⟩
  · simp at hcs
    obtain ⟨rfl, rfl, rfl⟩ := hcs
    have hnm : n ≤ m := by rw [hmm]; split <;> omega
    rw [T.c] at hx
    obtain ⟨Y, hY⟩ := Go.Deep.choose_lt (α := Vl) (n := n) (p := fun i y => (∀ j v, (vals y)[j]? = some v → W.cell? (a.add (i * 4 + j)) = some v) ∧ V1 y ∧ y.s.size ≤ maxLen) (fun i hi => by
      obtain ⟨cs', h1, h2⟩ := hx i (by omega)
      obtain ⟨_, hlen, hcell⟩ := World.cells?_some h1
      obtain ⟨o, e1, h3⟩ := open_v1s T hlen h2
      refine ⟨o, fun j v hv => ?_, h3⟩
      have hj : j < 4 := by
        have := (List.getElem?_eq_some_iff.1 hv).1
        simpa [vals] using this
      have h4 := hcell j hj
      rw [Go.Deep.add_add, e1, hv] at h4
      exact h4)
    refine ⟨(List.range n).map Y, ⟨by simp, hl, hm, by simp, fun j hj => ?_⟩, fun o ho => ?_⟩
    · simp only [List.length_map, List.length_range] at hj
      have hg : ((List.range n).map Y).getD j default = Y j := by simp [List.getD, hj]
      obtain ⟨h1, h2⟩ := hY j hj
      obtain ⟨b, off, spot⟩ := a
      have hs : spot = none := by simpa [Addr.add] using World.cell?_spot ((hY 0 (by omega)).1 0 _ rfl)
      subst hs
      have h5 := h1 0 _ rfl
      rw [Addr.add_lit] at h5
      refine ⟨b, off, rfl, World.block_lt_of_cell? W ⟨b, off + (j * 4 + 0), none⟩ h5, fun i v hv => ?_, by rw [hg]; exact h2.1⟩
      rw [hg] at hv
      have := h1 i v hv
      rwa [Addr.add_lit] at this
    · obtain ⟨i, hi, rfl⟩ := List.mem_map.1 ho
      exact (hY i (List.mem_range.1 hi)).2.2
theorem open_sl1 {t e : TypeId} {k : IntKind} {A : Option Addr} {n c : Nat} {fuel : Nat} {x : DataW H × List MemPlace}
    (ht : P.underlying t = some (.slice e)) (he : P.underlying e = some (.int k)) (hc : P.cellsOf e = 1) (hf : DataW.trod enc P W base spare held fuel t [.slice A n c] = some x) :
    ∃ xs, Sl W k A n c xs ∧ Fits k xs := by
  rcases open_ints ht he hc hf with ⟨hcs, _⟩ | ⟨x, l, cc, zs, hcs, _, hl, hm, hz, _, hcell, hwz⟩
  · simp at hcs
    obtain ⟨rfl, rfl, rfl⟩ := hcs
    exact ⟨[], Sl.none_ _ _, fun x hx => by simp at hx⟩
  · simp at hcs
    obtain ⟨rfl, rfl, rfl⟩ := hcs
    have hlz : n ≤ zs.length := by rw [hz]; split <;> omega
    refine ⟨zs.take n, ⟨by simp [hlz], hl, hm, by simp, ?_⟩, fun y hy => hwz y (List.mem_of_mem_take hy)⟩
    refine Rd.take (fun j hj => ?_) n
    obtain ⟨b, o, rfl, h1⟩ := ints_at hcell (by omega)
    have h2 := h1 j hj
    exact ⟨b, o, rfl, World.block_lt_of_cell? W ⟨b, o + j, none⟩ h2, h2⟩
/-- The type of a column. -/
structure ClT (P : Program) (t : TypeId) (f0 f1 f2 : Field) (e y : TypeId) (g0 g1 g2 g3 : Field) : Prop where
  u : P.underlying t = some (.struct #[f0, f1, f2])
  c : P.cellsOf t = 3
  o0 : f0.offset = 0
  o1 : f1.offset = 1
  o2 : f2.offset = 2
  c0 : P.cellsOf f0.type = 1
  c1 : P.cellsOf f1.type = 1
  c2 : P.cellsOf f2.type = 1
  u0 : P.underlying f0.type = some (.int .i64)
  u1 : P.underlying f1.type = some (.slice e)
  u2 : P.underlying f2.type = some (.slice y)
  v : VlT P e g0 g1 g2 g3
  b : P.underlying y = some (.int .u8)
  bc : P.cellsOf y = 1
theorem open_clm {t : TypeId} {f0 f1 f2 : Field} {e y : TypeId} {g0 g1 g2 g3 : Field} (T : ClT P t f0 f1 f2 e y g0 g1 g2 g3) {v : Value} {d : DataW H} {ps : List MemPlace} (hok : Value.okWide P W r base0 t v) (h : DataW.Trod enc P W base spare held t v d ps) :
    ∃ A n c B m d, ∃ C : Co.Col, v = .agg #[.int .i64 C.n, .slice A n c, .slice B m d] ∧ Cx.Cl W A n c B m d C := by
  obtain ⟨cs, rfl, hsz⟩ := okWide_struct T.u hok
  obtain ⟨fuel, h⟩ := h
  obtain ⟨xs, k, hk, hxy, _, hxl, hf⟩ := DataW.trod_struct T.u h
  have hl : cs.toList.length = 3 := by simpa [T.c] using hsz
  simp only [Value.cells] at hf
  obtain ⟨ls⟩ := cs
  simp only [] at hl hf
  match xs, hxl, ls, hl with
  | [y0, y1, y2], _, [v0, v1, v2], _ =>
    have q0 := hf 0 f0 rfl
    have q1 := hf 1 f1 rfl
    have q2 := hf 2 f2 rfl
    simp [T.o0, T.o1, T.o2, T.c0, T.c1, T.c2] at q0 q1 q2
    obtain ⟨a0, z0, _, w0⟩ := DataW.trod_int T.u0 q0
    obtain ⟨A, n, c, rfl⟩ := trod_slice_one T.u1 q1
    obtain ⟨B, m, d, rfl⟩ := trod_slice_one T.u2 q2
    obtain ⟨os, hv, hst⟩ := open_vs1 T.u1 T.v q1
    obtain ⟨bs, hb, hfit⟩ := open_sl1 T.u2 T.b T.bc q2
    simp only [List.cons.injEq, and_true] at z0
    subst z0
    refine ⟨A, n, c, B, m, d, ⟨a0, os, bs⟩, rfl, ⟨hv, hb, fun x hx => ?_, (bounds_i64 w0).1, (bounds_i64 w0).2, hst⟩⟩
    have := hfit x hx
    simp [Lit.wf, IntKind.min, IntKind.max, IntKind.signed, IntKind.bits] at this
    exact ⟨by omega, by rw [show (2 : Int) ^ 8 = 256 by decide]; omega⟩
end
end Wd
end Go.Proofs.YtnhgijlhnamolaaGreatDoor
namespace Go.Proofs.YtnhgijlhnamolaaGreatDoor
set_option maxRecDepth 20000
namespace Wd
theorem clT : ∃ f0 f1 f2 e y g0 g1 g2 g3, Wd.ClT Tryz.prog 25 f0 f1 f2 e y g0 g1 g2 g3 := by
  obtain ⟨g0, g1, g2, g3, T⟩ := Wd.vlT
  exact ⟨_, _, _, _, _, g0, g1, g2, g3, ⟨Tryz.underlying25, by kernel_rfl, rfl, rfl, rfl, by kernel_rfl, by kernel_rfl, by kernel_rfl, Tryz.underlying3, Tryz.underlying22, Tryz.underlying23, T, Tryz.underlying5, by kernel_rfl⟩⟩
end Wd
end Go.Proofs.YtnhgijlhnamolaaGreatDoor
