/- From an argument as the statement reads it to a column. From an argument as the statement reads it to a segment. The reference of layer 12: after. -/
import Derived.StillTailTactics
import Derived.BigQuiet
import Derived.Test.YtoibpbnebcoafaaGreatPk08
import Derived.Test.YtoibpbnebcoafaaGreatPk06
import Derived.Test.YtoibpbnebcoafaaGreatPk11
import Derived.Test.YtoibpbnebcoafaaGreatPk44
import Derived.Test.YtoibpbnebcoafaaGreatPk10
import Derived.Test.YtoibpbnebcoafaaGreatPk20
import Derived.Test.YtoibpbnebcoafaaGreatPk21
namespace Go.Proofs.YtoibpbnebcoafaaGreat
set_option maxRecDepth 20000
open Go.RowKit Go.ChangeShapes Go.WideShapes
namespace Wd
open Va (Vl)
section
variable {H : Type} {enc : TypeId × Value → H} {P : Program} {W : World} {r : Reach} {base0 base : Nat} {spare : Nat → Bool} {held : Bool}
theorem open_v1s {t : TypeId} {f0 f1 f2 f3 : Field} (T : VlT P t f0 f1 f2 f3) {fuel : Nat} {cs : List Value} {x : DataW H × List MemPlace} (hl : cs.length = 4) (h : DataW.trod enc P W base spare held fuel t cs = some x) :
    ∃ o : Vl, cs = vals o ∧ V1 o ∧ o.s.size ≤ maxLen := by
  obtain ⟨xs, k, hk, hxy, _, hxl, hf⟩ := DataW.trod_struct T.u h
  match xs, hxl, cs, hl with
  | [y0, y1, y2, y3], _, [v0, v1, v2, v3], _ =>
    have g0 := hf 0 f0 rfl
    have g1 := hf 1 f1 rfl
    have g2 := hf 2 f2 rfl
    have g3 := hf 3 f3 rfl
    simp [T.o0, T.o1, T.o2, T.o3, T.c0, T.c1, T.c2, T.c3] at g0 g1 g2 g3
    obtain ⟨a0, z0, _, w0⟩ := DataW.trod_int T.u0 g0
    obtain ⟨a1, z1, _, w1⟩ := DataW.trod_int T.u1 g1
    obtain ⟨s, z2, _, w2⟩ := DataW.trod_string T.u2 g2
    obtain ⟨b, z3, _⟩ := DataW.trod_bool T.u3 g3
    simp only [List.cons.injEq, and_true] at z0 z1 z2 z3
    subst z0 z1 z2 z3
    exact ⟨⟨a0, a1, s, b⟩, rfl, ⟨w0, w1⟩, w2⟩
theorem open_vsc {t e : TypeId} {f0 f1 f2 f3 : Field} (ht : P.underlying t = some (.slice e)) (T : VlT P e f0 f1 f2 f3) {fuel : Nat} {A : Option Addr} {n c : Nat} {x : DataW H × List MemPlace} (hf : DataW.trod enc P W base spare held fuel t [.slice A n c] = some x) :
    ∃ os, Vs W A n c os ∧ ∀ o ∈ os, o.s.size ≤ maxLen := by
  rcases Go.Deep.open_slice ht hf with ⟨hcs, _⟩ | ⟨a, len, cap, m, k, D, Pl, hcs, _, hl, hm, hmm, _, hx⟩
  · simp at hcs
    obtain ⟨rfl, rfl, rfl⟩ := hcs
    exact ⟨[], Vs.none_ _, fun o ho => by cases ho⟩
  · simp at hcs
    obtain ⟨rfl, rfl, rfl⟩ := hcs
    have hnm : n ≤ m := by rw [hmm]; split <;> omega
    rw [T.c] at hx
    obtain ⟨Y, hY⟩ := Go.Deep.choose_lt (α := Vl) (n := n) (p := fun i y => (∀ j v, (vals y)[j]? = some v → W.cell? (a.add (i * 4 + j)) = some v) ∧ V1 y ∧ y.s.size ≤ maxLen) (fun i hi => by
      obtain ⟨cs', h1, h2⟩ := hx i (by omega)
      obtain ⟨_, hlen, hcell⟩ := World.cells?_some h1
      obtain ⟨o, e1, h3⟩ := open_v1s T hlen h2
      refine ⟨o, fun j v hv => ?_, h3⟩
      have hj : j < 4 := by
        have := (List.getElem?_eq_some_iff.1 hv).1
        simpa [vals] using this
      have h4 := hcell j hj
      rw [Go.Deep.add_add, e1, hv] at h4
      exact h4)
    refine ⟨(List.range n).map Y, ⟨by simp, hl, hm, by simp, fun j hj => ?_⟩, fun o ho => ?_⟩
    · simp only [List.length_map, List.length_range] at hj
      have hg : ((List.range n).map Y).getD j default = Y j := by simp [List.getD, hj]
      obtain ⟨h1, h2⟩ := hY j hj
      obtain ⟨b, off, spot⟩ := a
      have hs : spot = none := by simpa [Addr.add] using World.cell?_spot ((hY 0 (by omega)).1 0 _ rfl)
      subst hs
      have h5 := h1 0 _ rfl
      rw [Addr.add_lit] at h5
      refine ⟨b, off, rfl, World.block_lt_of_cell? W ⟨b, off + (j * 4 + 0), none⟩ h5, fun i v hv => ?_, by rw [hg]; exact h2.1⟩
      rw [hg] at hv
      have := h1 i v hv
      rwa [Addr.add_lit] at this
    · obtain ⟨i, hi, rfl⟩ := List.mem_map.1 ho
      exact (hY i (List.mem_range.1 hi)).2.2
theorem open_sl1 {t e : TypeId} {k : IntKind} {A : Option Addr} {n c : Nat} {fuel : Nat} {x : DataW H × List MemPlace}
    (ht : P.underlying t = some (.slice e)) (he : P.underlying e = some (.int k)) (hc : P.cellsOf e = 1) (hf : DataW.trod enc P W base spare held fuel t [.slice A n c] = some x) :
    ∃ xs, Sl W k A n c xs ∧ Fits k xs := by
  rcases open_ints ht he hc hf with ⟨hcs, _⟩ | ⟨x, l, cc, zs, hcs, _, hl, hm, hz, _, hcell, hwz⟩
  · simp at hcs
    obtain ⟨rfl, rfl, rfl⟩ := hcs
    exact ⟨[], Sl.none_ _ _, fun x hx => by simp at hx⟩
  · simp at hcs
    obtain ⟨rfl, rfl, rfl⟩ := hcs
    have hlz : n ≤ zs.length := by rw [hz]; split <;> omega
    refine ⟨zs.take n, ⟨by simp [hlz], hl, hm, by simp, ?_⟩, fun y hy => hwz y (List.mem_of_mem_take hy)⟩
    refine Rd.take (fun j hj => ?_) n
    obtain ⟨b, o, rfl, h1⟩ := ints_at hcell (by omega)
    have h2 := h1 j hj
    exact ⟨b, o, rfl, World.block_lt_of_cell? W ⟨b, o + j, none⟩ h2, h2⟩
/-- The type of a column. -/
structure ClT (P : Program) (t : TypeId) (f0 f1 f2 : Field) (e y : TypeId) (g0 g1 g2 g3 : Field) : Prop where
  u : P.underlying t = some (.struct #[f0, f1, f2])
  c : P.cellsOf t = 3
  o0 : f0.offset = 0
  o1 : f1.offset = 1
  o2 : f2.offset = 2
  c0 : P.cellsOf f0.type = 1
  c1 : P.cellsOf f1.type = 1
  c2 : P.cellsOf f2.type = 1
  u0 : P.underlying f0.type = some (.int .i64)
  u1 : P.underlying f1.type = some (.slice e)
  u2 : P.underlying f2.type = some (.slice y)
  v : VlT P e g0 g1 g2 g3
  b : P.underlying y = some (.int .u8)
  bc : P.cellsOf y = 1
theorem open_clm {t : TypeId} {f0 f1 f2 : Field} {e y : TypeId} {g0 g1 g2 g3 : Field} (T : ClT P t f0 f1 f2 e y g0 g1 g2 g3) {v : Value} {d : DataW H} {ps : List MemPlace} (hok : Value.okWide P W r base0 t v) (h : DataW.Trod enc P W base spare held t v d ps) :
    ∃ A n c B m d, ∃ C : Co.Col, v = .agg #[.int .i64 C.n, .slice A n c, .slice B m d] ∧ Cx.Cl W A n c B m d C := by
  obtain ⟨cs, rfl, hsz⟩ := okWide_struct T.u hok
  obtain ⟨fuel, h⟩ := h
  obtain ⟨xs, k, hk, hxy, _, hxl, hf⟩ := DataW.trod_struct T.u h
  have hl : cs.toList.length = 3 := by simpa [T.c] using hsz
  simp only [Value.cells] at hf
  obtain ⟨ls⟩ := cs
  simp only [] at hl hf
  match xs, hxl, ls, hl with
  | [y0, y1, y2], _, [v0, v1, v2], _ =>
    have q0 := hf 0 f0 rfl
    have q1 := hf 1 f1 rfl
    have q2 := hf 2 f2 rfl
    simp [T.o0, T.o1, T.o2, T.c0, T.c1, T.c2] at q0 q1 q2
    obtain ⟨a0, z0, _, w0⟩ := DataW.trod_int T.u0 q0
    obtain ⟨A, n, c, rfl⟩ := trod_slice_one T.u1 q1
    obtain ⟨B, m, d, rfl⟩ := trod_slice_one T.u2 q2
    obtain ⟨os, hv, hst⟩ := open_vsc T.u1 T.v q1
    obtain ⟨bs, hb, hfit⟩ := open_sl1 T.u2 T.b T.bc q2
    simp only [List.cons.injEq, and_true] at z0
    subst z0
    refine ⟨A, n, c, B, m, d, ⟨a0, os, bs⟩, rfl, ⟨hv, hb, fun x hx => ?_, (bounds_i64 w0).1, (bounds_i64 w0).2, hst⟩⟩
    have := hfit x hx
    simp [Lit.wf, IntKind.min, IntKind.max, IntKind.signed, IntKind.bits] at this
    exact ⟨by omega, by rw [show (2 : Int) ^ 8 = 256 by decide]; omega⟩
end
end Wd
end Go.Proofs.YtoibpbnebcoafaaGreat
namespace Go.Proofs.YtoibpbnebcoafaaGreat
set_option maxRecDepth 20000
namespace Wd
theorem clT : ∃ f0 f1 f2 e y g0 g1 g2 g3, Wd.ClT Tryz.prog 70 f0 f1 f2 e y g0 g1 g2 g3 := by
  obtain ⟨g0, g1, g2, g3, T⟩ := Wd.vlT
  exact ⟨_, _, _, _, _, g0, g1, g2, g3, ⟨Tryz.underlying70, by kernel_rfl, rfl, rfl, rfl, by kernel_rfl, by kernel_rfl, by kernel_rfl, Tryz.underlying3, Tryz.underlying45, Tryz.underlying68, T, Tryz.underlying5, by kernel_rfl⟩⟩
end Wd
end Go.Proofs.YtoibpbnebcoafaaGreat
namespace Go.Proofs.YtoibpbnebcoafaaGreat
set_option maxRecDepth 20000
open Go.RowKit Go.ChangeShapes Go.WideShapes
namespace Wd
open Va (Vl)
section
variable {H : Type} {enc : TypeId × Value → H} {P : Program} {W : World} {r : Reach} {base0 base : Nat} {spare : Nat → Bool} {held : Bool}
theorem open_cl1 {t : TypeId} {f0 f1 f2 : Field} {e y : TypeId} {g0 g1 g2 g3 : Field} (T : ClT P t f0 f1 f2 e y g0 g1 g2 g3) {fuel : Nat} {cs : List Value} {x : DataW H × List MemPlace} (hl : cs.length = 3) (h : DataW.trod enc P W base spare held fuel t cs = some x) :
    ∃ o : Cr, cs = o.vals ∧ Cr1 W o := by
  obtain ⟨xs, k, hk, hxy, _, hxl, hf⟩ := DataW.trod_struct T.u h
  match xs, hxl, cs, hl with
  | [y0, y1, y2], _, [v0, v1, v2], _ =>
    have q0 := hf 0 f0 rfl
    have q1 := hf 1 f1 rfl
    have q2 := hf 2 f2 rfl
    simp [T.o0, T.o1, T.o2, T.c0, T.c1, T.c2] at q0 q1 q2
    obtain ⟨a0, z0, _, w0⟩ := DataW.trod_int T.u0 q0
    obtain ⟨A, n, c, rfl⟩ := trod_slice_one T.u1 q1
    obtain ⟨B, m, d, rfl⟩ := trod_slice_one T.u2 q2
    obtain ⟨os, hv, hst⟩ := open_vsc T.u1 T.v q1
    obtain ⟨bs, hb, hfit⟩ := open_sl1 T.u2 T.b T.bc q2
    simp only [List.cons.injEq, and_true] at z0
    subst z0
    refine ⟨⟨A, n, c, B, m, d, ⟨a0, os, bs⟩⟩, rfl, ⟨hv, hb, fun x hx => ?_, (bounds_i64 w0).1, (bounds_i64 w0).2, hst⟩⟩
    have := hfit x hx
    simp [Lit.wf, IntKind.min, IntKind.max, IntKind.signed, IntKind.bits] at this
    exact ⟨by omega, by rw [show (2 : Int) ^ 8 = 256 by decide]; omega⟩
theorem open_cms1 {t e : TypeId} {f0 f1 f2 : Field} {e1 y : TypeId} {g0 g1 g2 g3 : Field} (ht : P.underlying t = some (.slice e)) (T : ClT P e f0 f1 f2 e1 y g0 g1 g2 g3) {fuel : Nat} {A : Option Addr} {n c : Nat} {x : DataW H × List MemPlace} (hf : DataW.trod enc P W base spare held fuel t [.slice A n c] = some x) :
    ∃ os, Cms W A n c os := by
  rcases Go.Deep.open_slice ht hf with ⟨hcs, _⟩ | ⟨a, len, cap, m, k, D, Pl, hcs, _, hl, hm, hmm, _, hx⟩
  · simp at hcs
    obtain ⟨rfl, rfl, rfl⟩ := hcs
    exact ⟨[], Cms.none_ _⟩
  · simp at hcs
    obtain ⟨rfl, rfl, rfl⟩ := hcs
    have hnm : n ≤ m := by rw [hmm]; split <;> omega
    rw [T.c] at hx
    obtain ⟨Y, hY⟩ := Go.Deep.choose_lt (α := Cr) (n := n) (p := fun i y => (∀ j v, y.vals[j]? = some v → W.cell? (a.add (i * 3 + j)) = some v) ∧ Cr1 W y) (fun i hi => by
      obtain ⟨cs', h1, h2⟩ := hx i (by omega)
      obtain ⟨_, hlen, hcell⟩ := World.cells?_some h1
      obtain ⟨o, e1, h3⟩ := open_cl1 T hlen h2
      refine ⟨o, fun j v hv => ?_, h3⟩
      have hj : j < 3 := by
        have := (List.getElem?_eq_some_iff.1 hv).1
        simpa [Cr.vals] using this
      have h4 := hcell j hj
      rw [Go.Deep.add_add, e1, hv] at h4
      exact h4)
    refine ⟨(List.range n).map Y, ⟨by simp, hl, hm, by simp, fun j hj => ?_⟩⟩
    simp only [List.length_map, List.length_range] at hj
    have hg : ((List.range n).map Y).getD j default = Y j := by simp [List.getD, hj]
    obtain ⟨h1, h2⟩ := hY j hj
    obtain ⟨b, off, spot⟩ := a
    have hs : spot = none := by simpa [Addr.add] using World.cell?_spot ((hY 0 (by omega)).1 0 _ rfl)
    subst hs
    have h5 := h1 0 _ rfl
    rw [Addr.add_lit] at h5
    refine ⟨b, off, rfl, World.block_lt_of_cell? W ⟨b, off + (j * 3 + 0), none⟩ h5, fun i v hv => ?_, by rw [hg]; exact h2⟩
    rw [hg] at hv
    have := h1 i v hv
    rwa [Addr.add_lit] at this
/-- The type of a segment. -/
structure SgT (P : Program) (t : TypeId) (h0 h1 h2 h3 h4 h5 : Field) (i cl : TypeId) (f0 f1 f2 : Field) (e y : TypeId) (g0 g1 g2 g3 : Field) : Prop where
  u : P.underlying t = some (.struct #[h0, h1, h2, h3, h4, h5])
  c : P.cellsOf t = 6
  o0 : h0.offset = 0
  o1 : h1.offset = 1
  o2 : h2.offset = 2
  o3 : h3.offset = 3
  o4 : h4.offset = 4
  o5 : h5.offset = 5
  c0 : P.cellsOf h0.type = 1
  c1 : P.cellsOf h1.type = 1
  c2 : P.cellsOf h2.type = 1
  c3 : P.cellsOf h3.type = 1
  c4 : P.cellsOf h4.type = 1
  c5 : P.cellsOf h5.type = 1
  u0 : P.underlying h0.type = some (.int .i64)
  u1 : P.underlying h1.type = some (.int .i64)
  u2 : P.underlying h2.type = some (.int .i64)
  u3 : P.underlying h3.type = some (.int .i64)
  u4 : P.underlying h4.type = some (.slice i)
  u5 : P.underlying h5.type = some (.slice cl)
  ui : P.underlying i = some (.int .i64)
  ci : P.cellsOf i = 1
  v : ClT P cl f0 f1 f2 e y g0 g1 g2 g3
theorem open_seg {t : TypeId} {h0 h1 h2 h3 h4 h5 : Field} {i c : TypeId} {f0 f1 f2 : Field} {e y : TypeId} {g0 g1 g2 g3 : Field} (T : SgT P t h0 h1 h2 h3 h4 h5 i c f0 f1 f2 e y g0 g1 g2 g3) {v : Value} {d : DataW H} {ps : List MemPlace} (hok : Value.okWide P W r base0 t v) (h : DataW.Trod enc P W base spare held t v d ps) :
    ∃ OA on oc CA cn cc os, ∃ x : Se.Seg, v = .agg #[.int .i64 x.part, .int .i64 x.id, .int .i64 x.st, .int .i64 x.en, .slice OA on oc, .slice CA cn cc] ∧ Se.Sg W OA on oc CA cn cc os x := by
  obtain ⟨cs, rfl, hsz⟩ := okWide_struct T.u hok
  obtain ⟨fuel, h⟩ := h
  obtain ⟨xs, k, hk, hxy, _, hxl, hf⟩ := DataW.trod_struct T.u h
  have hl : cs.toList.length = 6 := by simpa [T.c] using hsz
  simp only [Value.cells] at hf
  obtain ⟨ls⟩ := cs
  simp only [] at hl hf
  match xs, hxl, ls, hl with
  | [y0, y1, y2, y3, y4, y5], _, [v0, v1, v2, v3, v4, v5], _ =>
    have q0 := hf 0 h0 rfl
    have q1 := hf 1 h1 rfl
    have q2 := hf 2 h2 rfl
    have q3 := hf 3 h3 rfl
    have q4 := hf 4 h4 rfl
    have q5 := hf 5 h5 rfl
    simp [T.o0, T.o1, T.o2, T.o3, T.o4, T.o5, T.c0, T.c1, T.c2, T.c3, T.c4, T.c5] at q0 q1 q2 q3 q4 q5
    obtain ⟨a0, z0, _, w0⟩ := DataW.trod_int T.u0 q0
    obtain ⟨a1, z1, _, w1⟩ := DataW.trod_int T.u1 q1
    obtain ⟨a2, z2, _, w2⟩ := DataW.trod_int T.u2 q2
    obtain ⟨a3, z3, _, w3⟩ := DataW.trod_int T.u3 q3
    obtain ⟨OA, on, oc, rfl⟩ := trod_slice_one T.u4 q4
    obtain ⟨CA, cn, cc, rfl⟩ := trod_slice_one T.u5 q5
    obtain ⟨offs, ho, hfit⟩ := open_sl1 T.u4 T.ui T.ci q4
    obtain ⟨os, hc⟩ := open_cms1 T.u5 T.v q5
    simp only [List.cons.injEq, and_true] at z0 z1 z2 z3
    subst z0 z1 z2 z3
    exact ⟨OA, on, oc, CA, cn, cc, os, ⟨a0, a1, a2, a3, offs, cols os⟩, rfl, ⟨ho, hc, rfl, hfit, w0, w1, w2, w3⟩⟩
end
theorem sgT : ∃ h0 h1 h2 h3 h4 h5 i c f0 f1 f2 e y g0 g1 g2 g3, Wd.SgT Tryz.prog 28 h0 h1 h2 h3 h4 h5 i c f0 f1 f2 e y g0 g1 g2 g3 := by
  obtain ⟨f0, f1, f2, e, y, g0, g1, g2, g3, T⟩ := Wd.clT
  exact ⟨_, _, _, _, _, _, _, _, f0, f1, f2, e, y, g0, g1, g2, g3, ⟨Tryz.underlying28, by kernel_rfl, rfl, rfl, rfl, rfl, rfl, rfl, by kernel_rfl, by kernel_rfl, by kernel_rfl, by kernel_rfl, by kernel_rfl, by kernel_rfl, Tryz.underlying3, Tryz.underlying3, Tryz.underlying3, Tryz.underlying3, Tryz.underlying25, Tryz.underlying26, Tryz.underlying3, by kernel_rfl, T⟩⟩
end Wd
end Go.Proofs.YtoibpbnebcoafaaGreat
namespace Go.Proofs.YtoibpbnebcoafaaGreat
set_option maxRecDepth 20000
open Go.RowKit
namespace Se
open Va (Vl ord)
open Sc (Sch MayS FitS tr tr_yes tr_no tr_iff tr_congr)
open Sx (Sb five)
open Wd (Cr)
set_option maxHeartbeats 4000000 in
theorem after_any (A : Option Addr) (n c : Nat) (s : Sch) (R : Option Addr) (m d : Nat) (xs : List Vl) (T : Option Addr) (p q : Nat) (ys : List Vl) (w : World) (hX : Wd.Vs w R m d xs) (hY : Wd.Vs w T p q ys) (h1 : Srt s xs) (h2 : Srt s ys) (hz : ∀ v ∈ xs, v.s.size ≤ maxLen) :
    Calls Tryz.prog 41 #[.agg #[.slice A n c, .int .i64 s.key, .int .i64 s.cmp, .int .i64 s.del, .int .i64 s.sort], .slice R m d, .slice T p q] w fun e w' => e = .returned (.bool (tr (0 < cm s xs ys))) ∧ Below w.heap.size w w' := by
  have hb0 := (Below.refl w.heap.size w).alloc (Nat.le_refl _) (.cells #[.slice A n c, .int .i64 s.key, .int .i64 s.cmp, .int .i64 s.del, .int .i64 s.sort] 24)
  have c4 := (five (Wd.Bx.new w 24 #[.slice A n c, .int .i64 s.key, .int .i64 s.cmp, .int .i64 s.del, .int .i64 s.sort])).2.2.2.2
  obtain ⟨r, hr⟩ : ∃ r, r = tr (0 < cm s xs ys) := ⟨_, rfl⟩
  rw [← hr]
  by_cases hs : s.sort = -1
  · have e : cm s xs ys = 0 := if_pos hs
    have q := Lib.hid (show r = false by rw [hr, e]; exact tr_no (by omega))
    obtain ⟨t, ht⟩ : ∃ t, t = s.sort := ⟨_, rfl⟩
    have hd : decide (0 ≤ t) = false := decide_eq_false (by omega)
    rw [← ht] at c4 hb0 ⊢
    have hbb := Lib.hid hb0
    clear e hr hs ht hb0
    go_enter Tryz.func41, Tryz.ntmps41
    go_wp2_with fail
    go_quiet (fail)
    go_wp2_with fail
    go_ret
    exact ⟨by rw [q.out]; rfl, Wd.below_drewN hbb.out _⟩
  · obtain ⟨K, hK⟩ : ∃ K : Nat, s.sort = (K : Int) := ⟨s.sort.toNat, by unfold Srt at h1; omega⟩
    have hk1 : K < xs.length := by unfold Srt at h1; omega
    have hk2 : K < ys.length := by unfold Srt at h2; omega
    have e : cm s xs ys = ord (xs.getD K default) (ys.getD K default) := by
      unfold cm ky
      rw [if_neg hs, hK, Int.toNat_natCast]
    have hm := hX.len
    have hp := hY.len
    have hzx := hz (xs.getD K default) (by
      rw [List.getD_eq_getElem?_getD, List.getElem?_eq_getElem hk1]
      exact List.getElem_mem _)
    obtain ⟨b, f, hA, hlb, a0, a1, a2, a3, -⟩ := (hX.below hb0).cells hk1 rfl
    obtain ⟨b', f', hA', hlb', b0, b1, b2, b3, -⟩ := (hY.below hb0).cells hk2 rfl
    have hcap := hX.cap
    have hmax := hX.max
    have hcap' := hY.cap
    have hmax' := hY.max
    unfold maxLen at hmax hmax'
    subst hA hA'
    rw [e] at hr
    rw [hK] at c4 hb0 a0 a1 a2 a3 b0 b1 b2 b3 ⊢
    generalize xs.getD K default = x at *
    generalize ys.getD K default = y at *
    have km : (K : Int) < (m : Int) := by omega
    have kp : (K : Int) < (p : Int) := by omega
    have k0 : (0 : Int) ≤ (K : Int) := by omega
    have k0' : decide ((0 : Int) ≤ (K : Int)) = true := decide_eq_true k0
    obtain ⟨w1, hw1⟩ : ∃ w1, w1 = w.alloc (.cells #[.slice A n c, .int .i64 s.key, .int .i64 s.cmp, .int .i64 s.del, .int .i64 (K : Int)] 24) := ⟨_, rfl⟩
    rw [← hw1] at c4 hb0 a0 a1 a2 a3 b0 b1 b2 b3
    obtain ⟨ov, hov⟩ : ∃ ov, ov = ord x y := ⟨_, rfl⟩
    have Co := Lib.hid (fun W => Vc.refOrder_any x.kind x.i x.s x.b y.kind y.i y.s y.b W hzx)
    rw [show (⟨x.kind, x.i, x.s, x.b⟩ : Vl) = x from rfl, show (⟨y.kind, y.i, y.s, y.b⟩ : Vl) = y from rfl, ← hov] at Co
    rw [← hov] at hr
    have q := Lib.hid (show decide (0 < ov) = r by rw [hr]; by_cases z : 0 < ov <;> simp [z, tr_yes, tr_no])
    have bk : ∀ {W : World} {a : Addr} {v : Value}, Below w1.heap.size w1 W → w1.cell? a = some v → W.cell? a = some v := fun {W a v} hb hc => (hb.cell (World.block_lt_of_cell? w1 a hc)).trans hc
    have ZZ := Lib.hid (fun (W : World) (hb : Below w1.heap.size w1 W) => (show W.cell? ⟨w.heap.size, 4, none⟩ = some (.int .i64 (K : Int)) ∧ W.cell? ⟨b, f + K * 4, none⟩ = some (.int .i64 x.kind) ∧ W.cell? ⟨b, f + K * 4 + 1, none⟩ = some (.int .i64 x.i) ∧ W.cell? ⟨b, f + K * 4 + 2, none⟩ = some (.string x.s) ∧ W.cell? ⟨b, f + K * 4 + 3, none⟩ = some (.bool x.b) ∧ W.cell? ⟨b', f' + K * 4, none⟩ = some (.int .i64 y.kind) ∧ W.cell? ⟨b', f' + K * 4 + 1, none⟩ = some (.int .i64 y.i) ∧ W.cell? ⟨b', f' + K * 4 + 2, none⟩ = some (.string y.s) ∧ W.cell? ⟨b', f' + K * 4 + 3, none⟩ = some (.bool y.b) from
      ⟨bk hb c4, bk hb a0, bk hb a1, bk hb a2, bk hb a3, bk hb b0, bk hb b1, bk hb b2, bk hb b3⟩))
    have Hb0 := Lib.hid hb0
    have Hw1 := Lib.hid hw1
    clear hw1 bk c4 a0 a1 a2 a3 b0 b1 b2 b3 hs hK hk1 hk2 e hm hp h1 h2 hX hY hlb hlb' hr hov hb0 hz hzx
    go_enter Tryz.func41, Tryz.ntmps41
    go_upto_region 1 with fail
    rw [← Hw1.out]
    have hb : Below w1.heap.size w1 w1.drew := (Below.refl _ _).drew
    have z10 := ZZ.out w1.drew hb
    go_region_held3 (fun W => W.cell? ⟨w.heap.size, 4, none⟩ = some (.int .i64 (K : Int)) ∧ W.cell? ⟨b, f + K * 4, none⟩ = some (.int .i64 x.kind) ∧ W.cell? ⟨b, f + K * 4 + 1, none⟩ = some (.int .i64 x.i) ∧ W.cell? ⟨b, f + K * 4 + 2, none⟩ = some (.string x.s) ∧ W.cell? ⟨b, f + K * 4 + 3, none⟩ = some (.bool x.b) ∧ W.cell? ⟨b', f' + K * 4, none⟩ = some (.int .i64 y.kind) ∧ W.cell? ⟨b', f' + K * 4 + 1, none⟩ = some (.int .i64 y.i) ∧ W.cell? ⟨b', f' + K * 4 + 2, none⟩ = some (.string y.s) ∧ W.cell? ⟨b', f' + K * 4 + 3, none⟩ = some (.bool y.b)) (with_reducible first | exact z10) (first
      | (go_at_call 29; (with_reducible refine (Co.out _).mono ?_); rintro e w5 ⟨rfl, hB5⟩; have hb := hb.trans (hB5.mono hb.size); have z10 := ZZ.out _ hb))
    all_goals (
      go_wp2_with fail
      go_ret
      exact ⟨by rw [q.out]; rfl, Hb0.out.trans (hb.mono Hb0.out.size)⟩)
end Se
end Go.Proofs.YtoibpbnebcoafaaGreat
