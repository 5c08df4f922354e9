/- Words on memory: a call of a disk as a struct (a kind, a number, a name, bytes, integers), a slice of such; from an argument as the statement reads it to these words. -/
import Derived.Test.YthangnhccbnfbaaDkAppend
import Derived.ProofKit
import Derived.OpenShut
import Derived.Deep.Slices
import Derived.Lib.SmallJoins
namespace Go.Proofs.Ythangnhccbnfbaa
open Go.RowKit Go.ChangeShapes Go.WideShapes
namespace Wd
/-- A call. -/
structure Opr where
  kind : Int
  num : Int
  name : ByteArray
  bA : Option Addr
  bn : Nat
  bc : Nat
  b : List Int
  kA : Option Addr
  kn : Nat
  kc : Nat
  keep : List Int
instance : Inhabited Opr := ⟨⟨0, 0, ByteArray.empty, none, 0, 0, [], none, 0, 0, []⟩⟩
def Opr.vals (o : Opr) : List Value := [.int .i64 o.kind, .int .i64 o.num, .string o.name, .slice o.bA o.bn o.bc, .slice o.kA o.kn o.kc]
/-- What its slices hold. -/
structure Op1 (w : World) (o : Opr) : Prop where
  b : Sl w .u8 o.bA o.bn o.bc o.b
  k : Sl w .i64 o.kA o.kn o.kc o.keep
  kf : Fits .i64 o.keep
  w0 : (Lit.int .i64 o.kind).wf = true
  w1 : (Lit.int .i64 o.num).wf = true
/-- The slice value of address A, length n and capacity c holds the calls os. -/
structure Os (w : World) (A : Option Addr) (n c : Nat) (os : List Opr) : Prop where
  len : n = os.length
  cap : n ≤ c
  max : c ≤ maxLen
  nil : A = none → c = 0
  at_ : ∀ j, j < os.length → ∃ b o, A = some ⟨b, o, none⟩ ∧ b < w.heap.size ∧ (∀ i v, (os.getD j default).vals[i]? = some v → w.cell? ⟨b, o + (j * 5 + i), none⟩ = some v) ∧ Op1 w (os.getD j default)
section
variable {w w' : World} {A : Option Addr} {n c : Nat} {os : List Opr} {o : Opr}
theorem Op1.below (h : Op1 w o) (hb : Below w.heap.size w w') : Op1 w' o := ⟨h.b.below hb, h.k.below hb, h.kf, h.w0, h.w1⟩
theorem Os.below (h : Os w A n c os) (hb : Below w.heap.size w w') : Os w' A n c os :=
  ⟨h.len, h.cap, h.max, h.nil, fun j hj => by
    obtain ⟨b, o, e, hlt, hc, h1⟩ := h.at_ j hj
    exact ⟨b, o, e, Nat.lt_of_lt_of_le hlt hb.size, fun i v hv => (hb.cell (p := ⟨b, o + (j * 5 + i), none⟩) hlt).trans (hc i v hv), h1.below hb⟩⟩
theorem Os.none_ (w : World) : Os w none 0 0 [] := ⟨rfl, Nat.le_refl _, Nat.zero_le _, fun _ => rfl, fun _ h => by simp at h⟩
/-- The cells of the j-th. -/
theorem Os.cells (h : Os w A n c os) {j : Nat} (hj : j < os.length) {o : Opr} (ho : o = os.getD j default) : ∃ b f, A = some ⟨b, f, none⟩ ∧ b < w.heap.size ∧ w.cell? ⟨b, f + j * 5, none⟩ = some (.int .i64 o.kind) ∧ w.cell? ⟨b, f + j * 5 + 1, none⟩ = some (.int .i64 o.num) ∧
    w.cell? ⟨b, f + j * 5 + 2, none⟩ = some (.string o.name) ∧ w.cell? ⟨b, f + j * 5 + 3, none⟩ = some (.slice o.bA o.bn o.bc) ∧ w.cell? ⟨b, f + j * 5 + 4, none⟩ = some (.slice o.kA o.kn o.kc) ∧ Op1 w o := by
  subst ho
  obtain ⟨b, f, e, hlt, hc, h1⟩ := h.at_ j hj
  exact ⟨b, f, e, hlt, hc 0 _ rfl, by rw [Nat.add_assoc]; exact hc 1 _ rfl, by rw [Nat.add_assoc]; exact hc 2 _ rfl, by rw [Nat.add_assoc]; exact hc 3 _ rfl, by rw [Nat.add_assoc]; exact hc 4 _ rfl, h1⟩
end

section
variable {H : Type} {enc : TypeId × Value → H} {P : Program} {W : World} {r : Reach} {base0 base : Nat} {spare : Nat → Bool} {held : Bool}
theorem open_sl1 {t e : TypeId} {k : IntKind} {fuel : Nat} {v : Value} {x : DataW H × List MemPlace}
    (ht : P.underlying t = some (.slice e)) (he : P.underlying e = some (.int k)) (hc : P.cellsOf e = 1) (hf : DataW.trod enc P W base spare held fuel t [v] = some x) :
    ∃ A n c xs, v = .slice A n c ∧ Sl W k A n c xs ∧ Fits k xs := by
  rcases open_ints ht he hc hf with ⟨hcs, _⟩ | ⟨a, n, c, zs, hcs, _, hl, hm, hz, _, hcell, hwz⟩
  · simp only [List.cons.injEq, and_true] at hcs
    exact ⟨none, 0, 0, [], hcs, Sl.none_ _ _, fun x hx => by simp at hx⟩
  · simp only [List.cons.injEq, and_true] at hcs
    have hlz : n ≤ zs.length := by rw [hz]; split <;> omega
    refine ⟨_, _, _, zs.take n, hcs, ⟨by simp [hlz], hl, hm, by simp, ?_⟩, fun y hy => hwz y (List.mem_of_mem_take hy)⟩
    refine Rd.take (fun j hj => ?_) n
    obtain ⟨b, o, rfl, h1⟩ := ints_at hcell (by omega)
    have h2 := h1 j hj
    exact ⟨b, o, rfl, World.block_lt_of_cell? W ⟨b, o + j, none⟩ h2, h2⟩
/-- The type of a call: its five fields. -/
structure OpT (P : Program) (t : TypeId) (f0 f1 f2 f3 f4 : Field) (e3 e4 : TypeId) : Prop where
  u : P.underlying t = some (.struct #[f0, f1, f2, f3, f4])
  c : P.cellsOf t = 5
  o0 : f0.offset = 0
  o1 : f1.offset = 1
  o2 : f2.offset = 2
  o3 : f3.offset = 3
  o4 : f4.offset = 4
  c0 : P.cellsOf f0.type = 1
  c1 : P.cellsOf f1.type = 1
  c2 : P.cellsOf f2.type = 1
  c3 : P.cellsOf f3.type = 1
  c4 : P.cellsOf f4.type = 1
  u0 : P.underlying f0.type = some (.int .i64)
  u1 : P.underlying f1.type = some (.int .i64)
  u2 : P.underlying f2.type = some .string
  u3 : P.underlying f3.type = some (.slice e3)
  u4 : P.underlying f4.type = some (.slice e4)
  k3 : P.underlying e3 = some (.int .u8)
  k4 : P.underlying e4 = some (.int .i64)
  d3 : P.cellsOf e3 = 1
  d4 : P.cellsOf e4 = 1
theorem open_op1 {t : TypeId} {f0 f1 f2 f3 f4 : Field} {e3 e4 : TypeId} (T : OpT P t f0 f1 f2 f3 f4 e3 e4) {fuel : Nat} {cs : List Value} {x : DataW H × List MemPlace} (hl : cs.length = 5) (h : DataW.trod enc P W base spare held fuel t cs = some x) :
    ∃ o : Opr, cs = o.vals ∧ Op1 W o := by
  obtain ⟨xs, k, hk, hxy, _, hxl, hf⟩ := DataW.trod_struct T.u h
  match xs, hxl, cs, hl with
  | [y0, y1, y2, y3, y4], _, [v0, v1, v2, v3, v4], _ =>
    have g0 := hf 0 f0 rfl
    have g1 := hf 1 f1 rfl
    have g2 := hf 2 f2 rfl
    have g3 := hf 3 f3 rfl
    have g4 := hf 4 f4 rfl
    simp [T.o0, T.o1, T.o2, T.o3, T.o4, T.c0, T.c1, T.c2, T.c3, T.c4] at g0 g1 g2 g3 g4
    obtain ⟨a0, z0, _, w0⟩ := DataW.trod_int T.u0 g0
    obtain ⟨a1, z1, _, w1⟩ := DataW.trod_int T.u1 g1
    obtain ⟨s, z2, _, _⟩ := DataW.trod_string T.u2 g2
    obtain ⟨A3, n3, c3, b3, z3, s3, _⟩ := open_sl1 T.u3 T.k3 T.d3 g3
    obtain ⟨A4, n4, c4, b4, z4, s4, f4⟩ := open_sl1 T.u4 T.k4 T.d4 g4
    simp only [List.cons.injEq, and_true] at z0 z1 z2
    subst z0 z1 z2 z3 z4
    exact ⟨⟨a0, a1, s, A3, n3, c3, b3, A4, n4, c4, b4⟩, rfl, ⟨s3, s4, f4, w0, w1⟩⟩
theorem open_op {t : TypeId} {f0 f1 f2 f3 f4 : Field} {e3 e4 : TypeId} (T : OpT P t f0 f1 f2 f3 f4 e3 e4) {v : Value} {d : DataW H} {ps : List MemPlace} (hok : Value.okWide P W r base0 t v) (h : DataW.Trod enc P W base spare held t v d ps) :
    ∃ o : Opr, v = .agg o.vals.toArray ∧ Op1 W o := by
  obtain ⟨cs, rfl, hsz⟩ := okWide_struct T.u hok
  obtain ⟨fuel, hf⟩ := h
  obtain ⟨o, e, h1⟩ := open_op1 T (by simpa [T.c, Value.cells] using hsz) hf
  refine ⟨o, ?_, h1⟩
  simp only [Value.cells] at e
  rw [← e]
theorem open_os {t e : TypeId} {f0 f1 f2 f3 f4 : Field} {e3 e4 : TypeId} (ht : P.underlying t = some (.slice e)) (T : OpT P e f0 f1 f2 f3 f4 e3 e4) {v : Value} {d : DataW H} {ps : List MemPlace} (hok : Value.okWide P W r base0 t v) (h : DataW.Trod enc P W base spare held t v d ps) :
    ∃ A n c os, v = .slice A n c ∧ Os W A n c os := by
  obtain ⟨A, n, c, rfl⟩ := okWide_slice ht hok
  obtain ⟨fuel, hf⟩ := h
  rcases Go.Deep.open_slice ht hf with ⟨hcs, _⟩ | ⟨a, len, cap, m, k, D, Pl, hcs, _, hl, hm, hmm, _, hx⟩
  · simp [Value.cells] at hcs
    obtain ⟨rfl, rfl, rfl⟩ := hcs
    exact ⟨none, 0, 0, [], rfl, Os.none_ _⟩
  · simp [Value.cells] at hcs
    obtain ⟨rfl, rfl, rfl⟩ := hcs
    have hnm : n ≤ m := by rw [hmm]; split <;> omega
    rw [T.c] at hx
    obtain ⟨Y, hY⟩ := Go.Deep.choose_lt (α := Opr) (n := n) (p := fun i y => (∀ j v, y.vals[j]? = some v → W.cell? (a.add (i * 5 + j)) = some v) ∧ Op1 W y) (fun i hi => by
      obtain ⟨cs', h1, h2⟩ := hx i (by omega)
      obtain ⟨_, hlen, hcell⟩ := World.cells?_some h1
      obtain ⟨o, e1, h3⟩ := open_op1 T hlen h2
      refine ⟨o, fun j v hv => ?_, h3⟩
      have hj : j < 5 := by
        have := (List.getElem?_eq_some_iff.1 hv).1
        simpa [Opr.vals] using this
      have h4 := hcell j hj
      rw [Go.Deep.add_add, e1, hv] at h4
      exact h4)
    refine ⟨some a, n, c, (List.range n).map Y, rfl, ⟨by simp, hl, hm, by simp, fun j hj => ?_⟩⟩
    simp only [List.length_map, List.length_range] at hj
    have hg : ((List.range n).map Y).getD j default = Y j := by simp [List.getD, hj]
    obtain ⟨h1, h2⟩ := hY j hj
    obtain ⟨b, off, spot⟩ := a
    have hs : spot = none := by simpa [Addr.add] using World.cell?_spot ((hY 0 (by omega)).1 0 _ rfl)
    subst hs
    have h5 := h1 0 _ rfl
    rw [Addr.add_lit] at h5
    refine ⟨b, off, rfl, World.block_lt_of_cell? W ⟨b, off + (j * 5 + 0), none⟩ h5, fun i v hv => ?_, by rw [hg]; exact h2⟩
    rw [hg] at hv
    have := h1 i v hv
    rwa [Addr.add_lit] at this
end
end Wd
end Go.Proofs.Ythangnhccbnfbaa
