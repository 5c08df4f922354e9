/- From an argument as the statement reads it to entries, slices of entries, journals. Their types, at this program. The bytes of an entry, and the payloads of a journal's file, in plain words. No program, no memory. The bit operations of layer 1 (the fold of signed numbers, digits put together) as plain arithmetic. -/
import Derived.ProofKit
import Derived.OpenShut
import Derived.Deep.Slices
import Derived.Lib.SmallJoins
import Derived.WalkKit
import Derived.WalkSmall
import Derived.Test.YtljgalleiemaaaaPk13
import Derived.Test.YtljgalleiemaaaaPk08
import Derived.Test.YtljgalleiemaaaaPk03
import Derived.Test.YtljgalleiemaaaaPk02
namespace Go.Proofs.Ytljgalleiemaaaa
set_option maxRecDepth 20000
open Go.RowKit Go.ChangeShapes Go.WideShapes
namespace Wd
open Jo (En Wf Rg ev)
theorem rg_of {n : Int} (h : (Lit.int .i64 n).wf = true) : Rg n := ⟨(bounds_i64 h).1, (bounds_i64 h).2⟩
section
variable {H : Type} {enc : TypeId × Value → H} {P : Program} {W : World} {r : Reach} {base0 base : Nat} {spare : Nat → Bool} {held : Bool}
theorem slice_one {t e : TypeId} (ht : P.underlying t = some (.slice e)) {fuel : Nat} {v : Value} {x : DataW H × List MemPlace} (h : DataW.trod enc P W base spare held fuel t [v] = some x) : ∃ A n c, v = .slice A n c := by
  rcases Go.Deep.open_slice ht h with ⟨hcs, _⟩ | ⟨a, len, cap, m, k, D, Pl, hcs, _⟩
  · simp only [List.cons.injEq, and_true] at hcs
    exact ⟨_, _, _, hcs⟩
  · simp only [List.cons.injEq, and_true] at hcs
    exact ⟨_, _, _, hcs⟩
/-- The type of an entry: its seven fields. -/
structure EnT (P : Program) (t : TypeId) (f0 f1 f2 f3 f4 f5 f6 : Field) : Prop where
  u : P.underlying t = some (.struct #[f0, f1, f2, f3, f4, f5, f6])
  c : P.cellsOf t = 7
  o : f0.offset = 0 ∧ f1.offset = 1 ∧ f2.offset = 2 ∧ f3.offset = 3 ∧ f4.offset = 4 ∧ f5.offset = 5 ∧ f6.offset = 6
  k : P.cellsOf f0.type = 1 ∧ P.cellsOf f1.type = 1 ∧ P.cellsOf f2.type = 1 ∧ P.cellsOf f3.type = 1 ∧ P.cellsOf f4.type = 1 ∧ P.cellsOf f5.type = 1 ∧ P.cellsOf f6.type = 1
  i : P.underlying f0.type = some (.int .i64) ∧ P.underlying f1.type = some (.int .i64) ∧ P.underlying f2.type = some (.int .i64) ∧ P.underlying f3.type = some (.int .i64) ∧ P.underlying f4.type = some (.int .i64) ∧ P.underlying f5.type = some (.int .i64) ∧ P.underlying f6.type = some (.int .i64)
theorem open_e1 {t : TypeId} {f0 f1 f2 f3 f4 f5 f6 : Field} (T : EnT P t f0 f1 f2 f3 f4 f5 f6) {fuel : Nat} {cs : List Value} {x : DataW H × List MemPlace} (hl : cs.length = 7) (h : DataW.trod enc P W base spare held fuel t cs = some x) : ∃ y : En, cs = ev y ∧ Wf y := by
  obtain ⟨xs, k, hk, hxy, _, hxl, hf⟩ := DataW.trod_struct T.u h
  obtain ⟨o0, o1, o2, o3, o4, o5, o6⟩ := T.o
  obtain ⟨k0, k1, k2, k3, k4, k5, k6⟩ := T.k
  obtain ⟨i0, i1, i2, i3, i4, i5, i6⟩ := T.i
  match xs, hxl, cs, hl with
  | [y0, y1, y2, y3, y4, y5, y6], _, [v0, v1, v2, v3, v4, v5, v6], _ =>
    have q0 := hf 0 f0 rfl
    have q1 := hf 1 f1 rfl
    have q2 := hf 2 f2 rfl
    have q3 := hf 3 f3 rfl
    have q4 := hf 4 f4 rfl
    have q5 := hf 5 f5 rfl
    have q6 := hf 6 f6 rfl
    simp [o0, o1, o2, o3, o4, o5, o6, k0, k1, k2, k3, k4, k5, k6] at q0 q1 q2 q3 q4 q5 q6
    obtain ⟨a0, z0, _, w0⟩ := DataW.trod_int i0 q0
    obtain ⟨a1, z1, _, w1⟩ := DataW.trod_int i1 q1
    obtain ⟨a2, z2, _, w2⟩ := DataW.trod_int i2 q2
    obtain ⟨a3, z3, _, w3⟩ := DataW.trod_int i3 q3
    obtain ⟨a4, z4, _, w4⟩ := DataW.trod_int i4 q4
    obtain ⟨a5, z5, _, w5⟩ := DataW.trod_int i5 q5
    obtain ⟨a6, z6, _, w6⟩ := DataW.trod_int i6 q6
    simp only [List.cons.injEq, and_true] at z0 z1 z2 z3 z4 z5 z6
    subst z0 z1 z2 z3 z4 z5 z6
    exact ⟨⟨a0, a1, a2, a3, a4, a5, a6⟩, rfl, rg_of w0, rg_of w1, rg_of w2, rg_of w3, rg_of w4, rg_of w5, rg_of w6⟩
theorem open_es1 {t e : TypeId} {f0 f1 f2 f3 f4 f5 f6 : Field} (ht : P.underlying t = some (.slice e)) (T : EnT P e f0 f1 f2 f3 f4 f5 f6) {fuel : Nat} {A : Option Addr} {n c : Nat} {x : DataW H × List MemPlace} (hf : DataW.trod enc P W base spare held fuel t [.slice A n c] = some x) : ∃ l, Es W A n c l := by
  rcases Go.Deep.open_slice ht hf with ⟨hcs, _⟩ | ⟨a, len, cap, m, k, D, Pl, hcs, _, hl, hm, hmm, _, hx⟩
  · simp at hcs
    obtain ⟨rfl, rfl, rfl⟩ := hcs
    exact ⟨[], Es.none_ _⟩
  · simp at hcs
    obtain ⟨rfl, rfl, rfl⟩ := hcs
    have hnm : n ≤ m := by rw [hmm]; split <;> omega
    rw [T.c] at hx
    obtain ⟨Y, hY⟩ := Go.Deep.choose_lt (α := En) (n := n) (p := fun i y => (∀ j v, (ev y)[j]? = some v → W.cell? (a.add (i * 7 + j)) = some v) ∧ Wf y) (fun i hi => by
      obtain ⟨cs', h1, h2⟩ := hx i (by omega)
      obtain ⟨_, hlen, hcell⟩ := World.cells?_some h1
      obtain ⟨o, e1, h3⟩ := open_e1 T hlen h2
      refine ⟨o, fun j v hv => ?_, h3⟩
      have hj : j < 7 := by
        have := (List.getElem?_eq_some_iff.1 hv).1
        simpa [ev] using this
      have h4 := hcell j hj
      rw [Go.Deep.add_add, e1, hv] at h4
      exact h4)
    refine ⟨(List.range n).map Y, ⟨by simp, hl, hm, by simp, fun j hj => ?_, fun y hy => ?_⟩⟩
    · simp only [List.length_map, List.length_range] at hj
      have hg : ((List.range n).map Y).getD j default = Y j := by simp [List.getD, hj]
      obtain ⟨h1, h2⟩ := hY j hj
      obtain ⟨b, off, spot⟩ := a
      have hs : spot = none := by simpa [Addr.add] using World.cell?_spot ((hY 0 (by omega)).1 0 _ rfl)
      subst hs
      have h5 := h1 0 _ rfl
      rw [Addr.add_lit] at h5
      refine ⟨b, off, rfl, World.block_lt_of_cell? W ⟨b, off + (j * 7 + 0), none⟩ h5, fun i v hv => ?_⟩
      rw [hg] at hv
      have := h1 i v hv
      rwa [Addr.add_lit] at this
    · simp only [List.mem_map, List.mem_range] at hy
      obtain ⟨i, hi, rfl⟩ := hy
      exact (hY i hi).2
theorem open_es {t e : TypeId} {f0 f1 f2 f3 f4 f5 f6 : Field} (ht : P.underlying t = some (.slice e)) (T : EnT P e f0 f1 f2 f3 f4 f5 f6) {v : Value} {d : DataW H} {ps : List MemPlace} (hok : Value.okWide P W r base0 t v) (h : DataW.Trod enc P W base spare held t v d ps) : ∃ A n c l, v = .slice A n c ∧ Es W A n c l := by
  obtain ⟨A, n, c, rfl⟩ := okWide_slice ht hok
  obtain ⟨fuel, hf⟩ := h
  obtain ⟨l, hl⟩ := open_es1 ht T hf
  exact ⟨A, n, c, l, rfl, hl⟩
theorem open_en {t : TypeId} {f0 f1 f2 f3 f4 f5 f6 : Field} (T : EnT P t f0 f1 f2 f3 f4 f5 f6) {v : Value} {d : DataW H} {ps : List MemPlace} (hok : Value.okWide P W r base0 t v) (h : DataW.Trod enc P W base spare held t v d ps) : ∃ x : En, v = .agg #[.int .i64 x.kind, .int .i64 x.part, .int .i64 x.id, .int .i64 x.st, .int .i64 x.en, .int .i64 x.size, .int .i64 x.sum] ∧ Wf x := by
  obtain ⟨cs, rfl, hsz⟩ := okWide_struct T.u hok
  obtain ⟨fuel, h⟩ := h
  obtain ⟨x, e, hw⟩ := open_e1 T (by simpa [T.c] using hsz) (show DataW.trod enc P W base spare held fuel t cs.toList = some _ from h)
  refine ⟨x, ?_, hw⟩
  have : cs = (ev x).toArray := by rw [← e]
  rw [this]
  rfl
/-- The type of what is told of a partition. -/
structure PtT (P : Program) (t : TypeId) (g0 g1 g2 : Field) (e : TypeId) (f0 f1 f2 f3 f4 f5 f6 : Field) : Prop where
  u : P.underlying t = some (.struct #[g0, g1, g2])
  c : P.cellsOf t = 3
  o : g0.offset = 0 ∧ g1.offset = 1 ∧ g2.offset = 2
  k : P.cellsOf g0.type = 1 ∧ P.cellsOf g1.type = 1 ∧ P.cellsOf g2.type = 1
  i : P.underlying g0.type = some (.int .i64) ∧ P.underlying g1.type = some (.int .i64) ∧ P.underlying g2.type = some (.slice e)
  T : EnT P e f0 f1 f2 f3 f4 f5 f6
theorem open_pt {t : TypeId} {g0 g1 g2 : Field} {e : TypeId} {f0 f1 f2 f3 f4 f5 f6 : Field} (T : PtT P t g0 g1 g2 e f0 f1 f2 f3 f4 f5 f6) {fuel : Nat} {cs : List Value} {x : DataW H × List MemPlace} (hl : cs.length = 3) (h : DataW.trod enc P W base spare held fuel t cs = some x) :
    ∃ p : Pv, cs = [.int .i64 p.g, .int .i64 p.b, .slice p.A p.n p.c] ∧ Es W p.A p.n p.c p.l ∧ Rg p.g ∧ Rg p.b := by
  obtain ⟨xs, k, hk, hxy, _, hxl, hf⟩ := DataW.trod_struct T.u h
  obtain ⟨o0, o1, o2⟩ := T.o
  obtain ⟨k0, k1, k2⟩ := T.k
  obtain ⟨i0, i1, i2⟩ := T.i
  match xs, hxl, cs, hl with
  | [y0, y1, y2], _, [v0, v1, v2], _ =>
    have q0 := hf 0 g0 rfl
    have q1 := hf 1 g1 rfl
    have q2 := hf 2 g2 rfl
    simp [o0, o1, o2, k0, k1, k2] at q0 q1 q2
    obtain ⟨a0, z0, _, w0⟩ := DataW.trod_int i0 q0
    obtain ⟨a1, z1, _, w1⟩ := DataW.trod_int i1 q1
    obtain ⟨A, n, c, rfl⟩ := slice_one i2 q2
    obtain ⟨l, hE⟩ := open_es1 i2 T.T q2
    simp only [List.cons.injEq, and_true] at z0 z1
    subst z0 z1
    exact ⟨⟨a0, a1, A, n, c, l⟩, rfl, hE, rg_of w0, rg_of w1⟩
theorem open_jn {t e : TypeId} {g0 g1 g2 : Field} {e' : TypeId} {f0 f1 f2 f3 f4 f5 f6 : Field} (ht : P.underlying t = some (.array 4 e)) (hC : P.cellsOf t = 12) (T : PtT P e g0 g1 g2 e' f0 f1 f2 f3 f4 f5 f6) {v : Value} {d : DataW H} {ps : List MemPlace} (hok : Value.okWide P W r base0 t v) (h : DataW.Trod enc P W base spare held t v d ps) :
    ∃ p0 p1 p2 p3 : Pv, v = .agg #[.int .i64 p0.g, .int .i64 p0.b, .slice p0.A p0.n p0.c, .int .i64 p1.g, .int .i64 p1.b, .slice p1.A p1.n p1.c, .int .i64 p2.g, .int .i64 p2.b, .slice p2.A p2.n p2.c, .int .i64 p3.g, .int .i64 p3.b, .slice p3.A p3.n p3.c] ∧ Jr.Jv W p0 p1 p2 p3 [p0.pt, p1.pt, p2.pt, p3.pt] := by
  have hv : ∃ cs, v = .agg cs ∧ cs.size = 12 := by
    simp only [Value.okWide, ht] at hok
    cases v <;> simp_all
  obtain ⟨cs, rfl, hs⟩ := hv
  obtain ⟨fuel, hf⟩ := h
  obtain ⟨xs, m, _, _, _, hl, hx⟩ := DataW.trod_array ht hf
  rw [T.c] at hx
  obtain ⟨cs⟩ := cs
  match cs, hs with
  | [c0, c1, c2, c3, c4, c5, c6, c7, c8, c9, c10, c11], _ =>
    have get : ∀ i, i < 4 → ∃ y, xs[i]? = some y := fun i hi => ⟨_, List.getElem?_eq_getElem (by omega)⟩
    obtain ⟨y0, g0⟩ := get 0 (by omega)
    obtain ⟨y1, g1⟩ := get 1 (by omega)
    obtain ⟨y2, g2⟩ := get 2 (by omega)
    obtain ⟨y3, g3⟩ := get 3 (by omega)
    have h0 := hx 0 (by omega)
    have h1 := hx 1 (by omega)
    have h2 := hx 2 (by omega)
    have h3 := hx 3 (by omega)
    rw [g0] at h0
    rw [g1] at h1
    rw [g2] at h2
    rw [g3] at h3
    obtain ⟨p0, e0, s0, r0⟩ := open_pt (cs := [c0, c1, c2]) T rfl h0
    obtain ⟨p1, e1, s1, r1⟩ := open_pt (cs := [c3, c4, c5]) T rfl h1
    obtain ⟨p2, e2, s2, r2⟩ := open_pt (cs := [c6, c7, c8]) T rfl h2
    obtain ⟨p3, e3, s3, r3⟩ := open_pt (cs := [c9, c10, c11]) T rfl h3
    simp only [List.cons.injEq, and_true] at e0 e1 e2 e3
    obtain ⟨rfl, rfl, rfl⟩ := e0
    obtain ⟨rfl, rfl, rfl⟩ := e1
    obtain ⟨rfl, rfl, rfl⟩ := e2
    obtain ⟨rfl, rfl, rfl⟩ := e3
    exact ⟨p0, p1, p2, p3, rfl, ⟨rfl, s0, s1, s2, s3, r0, r1, r2, r3⟩⟩
end
theorem enT : ∃ f0 f1 f2 f3 f4 f5 f6, EnT Try.prog 32 f0 f1 f2 f3 f4 f5 f6 := by
  refine ⟨_, _, _, _, _, _, _, Try.underlying32, by kernel_rfl, ⟨rfl, rfl, rfl, rfl, rfl, rfl, rfl⟩, ⟨?_, ?_, ?_, ?_, ?_, ?_, ?_⟩, ⟨Try.underlying3, Try.underlying3, Try.underlying3, Try.underlying3, Try.underlying3, Try.underlying3, Try.underlying3⟩⟩ <;> kernel_rfl
theorem ptT : ∃ g0 g1 g2 f0 f1 f2 f3 f4 f5 f6, PtT Try.prog 25 g0 g1 g2 32 f0 f1 f2 f3 f4 f5 f6 := by
  obtain ⟨f0, f1, f2, f3, f4, f5, f6, T⟩ := enT
  refine ⟨_, _, _, f0, f1, f2, f3, f4, f5, f6, Try.underlying25, by kernel_rfl, ⟨rfl, rfl, rfl⟩, ⟨?_, ?_, ?_⟩, ⟨Try.underlying3, Try.underlying3, Try.underlying22⟩, T⟩ <;> kernel_rfl
end Wd
end Go.Proofs.Ytljgalleiemaaaa
namespace Go.Proofs.Ytljgalleiemaaaa
set_option maxRecDepth 20000
namespace Jo
open Nm (vd Byt)
theorem vd_pre {u v : Int} {a b : List Int} (u0 : 0 ≤ u) (u1 : u ≤ 18446744073709551615) (v0 : 0 ≤ v) (v1 : v ≤ 18446744073709551615) (h : vd u ++ a = vd v ++ b) : u = v ∧ a = b := by
  have e := congrArg Nm.gv h
  rw [Nm.gv_vd u a u0 u1, Nm.gv_vd v b v0 v1] at e
  have e1 : u = v := congrArg Prod.fst e
  subst e1
  exact ⟨rfl, List.append_cancel_left h⟩
/-- The numbers of an entry, as its bytes tell them. -/
def nums (x : En) : List Int := [x.kind, x.part, x.id] ++ (if x.kind = 1 then [x.st, x.en, x.size, x.sum] else if x.kind = 3 then [x.en] else [])
def put (x : En) : List Int := (nums x).flatMap vd
def In (l : List Int) : Prop := ∀ n ∈ l, 0 ≤ n ∧ n ≤ 1099511627776
theorem nums_in {x : En} (h : May x) : In (nums x) := by
  obtain ⟨⟨a1, a2, a3, a4⟩, h⟩ := h
  intro n hn
  unfold nums at hn
  rcases h with ⟨k, _⟩ | ⟨k, _⟩ | ⟨k, _⟩ <;> rw [k] at hn <;> simp at hn
  · rcases hn with rfl | rfl | rfl | rfl | rfl | rfl | rfl <;> omega
  · rcases hn with rfl | rfl | rfl <;> omega
  · rcases hn with rfl | rfl | rfl | rfl <;> omega
theorem nums_len (x : En) : (nums x).length ≤ 7 := by
  unfold nums
  split
  · simp
  · split <;> simp
theorem flat_len (l : List Int) : (l.flatMap vd).length ≤ l.length * 10 := by
  induction l with
  | nil => simp
  | cons a l ih =>
    have := (Nm.vd_len a).2
    simp only [List.flatMap_cons, List.length_append, List.length_cons]
    omega
theorem flat_byt {l : List Int} (h : In l) : Byt (l.flatMap vd) := by
  intro b hb
  obtain ⟨n, hn, hb⟩ := List.mem_flatMap.1 hb
  have := h n hn
  exact Nm.vd_byt n this.1 (by omega) b hb
theorem flat_inj : ∀ {l m : List Int}, In l → In m → l.flatMap vd = m.flatMap vd → l = m
  | [], [], _, _, _ => rfl
  | [], b :: m, _, _, h => by
    have := (Nm.vd_len b).1
    have e := congrArg List.length h
    simp only [List.flatMap_nil, List.flatMap_cons, List.length_nil, List.length_append] at e
    omega
  | a :: l, [], _, _, h => by
    have := (Nm.vd_len a).1
    have e := congrArg List.length h
    simp only [List.flatMap_nil, List.flatMap_cons, List.length_nil, List.length_append] at e
    omega
  | a :: l, b :: m, hl, hm, h => by
    have p := hl a (List.mem_cons_self ..)
    have q := hm b (List.mem_cons_self ..)
    simp only [List.flatMap_cons] at h
    obtain ⟨rfl, e⟩ := vd_pre p.1 (by omega) q.1 (by omega) h
    rw [flat_inj (fun n hn => hl n (List.mem_cons_of_mem _ hn)) (fun n hn => hm n (List.mem_cons_of_mem _ hn)) e]
theorem put_len (x : En) : (put x).length ≤ 70 := Nat.le_trans (flat_len _) (by have := nums_len x; omega)
theorem put_byt {x : En} (h : May x) : Byt (put x) := flat_byt (nums_in h)
theorem nums_inj {x y : En} (hx : May x) (hy : May y) (h : nums x = nums y) : x = y := by
  obtain ⟨k, p, i, a, b, c, d⟩ := x
  obtain ⟨k', p', i', a', b', c', d'⟩ := y
  obtain ⟨_, hx⟩ := hx
  obtain ⟨_, hy⟩ := hy
  unfold nums at h
  simp only [List.cons_append, List.nil_append, List.cons.injEq] at h hx hy
  obtain ⟨rfl, rfl, rfl, h⟩ := h
  rcases hx with ⟨k1, _⟩ | ⟨k1, z1, z2, z3, z4⟩ | ⟨k1, z1, _, _, z3, z4⟩ <;> subst k1
  · simp at h
    obtain ⟨rfl, rfl, rfl, rfl⟩ := h
    rfl
  · obtain ⟨_, y1, y2, y3, y4⟩ | ⟨y0, _⟩ := hy.resolve_left (by omega)
    · rw [z1, z2, z3, z4, y1, y2, y3, y4]
    · omega
  · obtain ⟨y0, _⟩ | ⟨_, y1, _, _, y3, y4⟩ := hy.resolve_left (by omega)
    · omega
    · simp at h
      rw [z1, z3, z4, y1, y3, y4, h]
theorem put_inj {x y : En} (hx : May x) (hy : May y) (h : put x = put y) : x = y := nums_inj hx hy (flat_inj (nums_in hx) (nums_in hy) h)
/-- The first payload of a journal's file; its payloads. -/
def head (no : Int) (n : Nat) : List Int := vd no ++ vd (n : Int)
def pays (no : Int) (l : List En) : List (List Int) := head no l.length :: l.map put
theorem pays_fine {no : Int} {l : List En} (h0 : 0 ≤ no) (h1 : no ≤ 9223372036854775807) (hl : l.length ≤ 4096) (h : ∀ x ∈ l, May x) : Fr.Fine (pays no l) := by
  intro p hp
  rcases List.mem_cons.1 hp with rfl | hp
  · refine ⟨?_, fun b hb => ?_⟩
    · unfold head
      have := (Nm.vd_len no).2
      have := (Nm.vd_len (l.length : Int)).2
      rw [List.length_append]
      omega
    · unfold head at hb
      rcases List.mem_append.1 hb with hb | hb
      · exact Nm.vd_byt no h0 (by omega) b hb
      · exact Nm.vd_byt _ (by omega) (by omega) b hb
  · obtain ⟨x, hx, rfl⟩ := List.mem_map.1 hp
    exact ⟨by have := put_len x; omega, put_byt (h x hx)⟩
/-- How many frames a beginning of frames holds whole. -/
theorem cut_ex (P : List (List Int)) (a : Nat) : ∀ n : Nat, ∃ q, q ≤ n ∧ Fr.ed P q ≤ a ∧ (q < n → a < Fr.ed P (q + 1))
  | 0 => ⟨0, Nat.le_refl _, Nat.zero_le _, fun h => absurd h (Nat.lt_irrefl _)⟩
  | n + 1 => by
    obtain ⟨q, q1, q2, q3⟩ := cut_ex P a n
    by_cases e : q < n
    · exact ⟨q, by omega, q2, fun _ => q3 e⟩
    · obtain rfl : q = n := by omega
      by_cases h : a < Fr.ed P (q + 1)
      · exact ⟨q, by omega, q2, fun _ => h⟩
      · exact ⟨q + 1, Nat.le_refl _, by omega, fun z => absurd z (Nat.lt_irrefl _)⟩
/-- What is read of a beginning of frames: those that it holds whole. -/
theorem rd_take {P : List (List Int)} (hP : Fr.Fine P) (a : Nat) : ∃ q, q ≤ P.length ∧ Fr.ed P q ≤ a ∧ (q < P.length → a < Fr.ed P (q + 1)) ∧ Fr.rd ((Fr.cat P).take a) = (P.take q, Fr.ed P q) := by
  obtain ⟨q, q1, q2, q3⟩ := cut_ex P a P.length
  exact ⟨q, q1, q2, q3, Fr.rd_cut P a q hP q1 q2 q3⟩
theorem ed_mono {P : List (List Int)} : ∀ {a b : Nat}, a ≤ b → b ≤ P.length → Fr.ed P a ≤ Fr.ed P b := by
  intro a b h hb
  induction b with
  | zero => rw [Nat.le_zero.1 h]; exact Nat.le_refl _
  | succ b ih =>
    by_cases e : a = b + 1
    · rw [e]; exact Nat.le_refl _
    · have := Fr.ed_succ P b (by omega)
      have := ih (by omega) (by omega)
      omega
theorem ed_iff {P : List (List Int)} {a q : Nat} (q1 : q ≤ P.length) (q2 : Fr.ed P q ≤ a) (q3 : q < P.length → a < Fr.ed P (q + 1)) {k : Nat} (hk : k ≤ P.length) : Fr.ed P k ≤ a ↔ k ≤ q := by
  constructor
  · intro h
    by_cases e : k ≤ q
    · exact e
    · have := q3 (by omega)
      have := ed_mono (P := P) (a := q + 1) (b := k) (by omega) hk
      omega
  · intro h
    exact Nat.le_trans (ed_mono h q1) q2
/-- The journal that payloads tell of which the first says how many there are at least: those of l, and of m as far as they are there. -/
theorem take_pays (no : Int) (l m : List En) (q : Nat) : (pays no l ++ m.map put).take (q + 1) = head no l.length :: ((l ++ m).take q).map put := by
  unfold pays
  rw [List.cons_append, List.take_succ_cons, ← List.map_append, List.map_take]
end Jo
end Go.Proofs.Ytljgalleiemaaaa
namespace Go.Proofs.Ytljgalleiemaaaa
set_option maxRecDepth 20000
namespace Nm

theorem xor_ones (x : Nat) (h : x < 2 ^ 64) : x ^^^ (2 ^ 64 - 1) = 2 ^ 64 - 1 - x := by
  have e : x ^^^ (2 ^ 64 - 1) = ((BitVec.ofNat 64 x) ^^^ (BitVec.allOnes 64)).toNat := by
    rw [BitVec.toNat_xor, BitVec.toNat_allOnes, BitVec.toNat_ofNat, Nat.mod_eq_of_lt h]
  rw [e, BitVec.xor_allOnes, BitVec.toNat_not, BitVec.toNat_ofNat, Nat.mod_eq_of_lt h]
theorem zig_bits (n : Int) (h1 : -9223372036854775808 ≤ n) (h2 : n ≤ 9223372036854775807) :
    bits BinOp.xor IntKind.u64 (IntKind.u64.wrap (IntKind.u64.wrap n * 2)) (IntKind.u64.wrap (n / 9223372036854775808)) = zz n := by
  simp only [IntKind.wrap_u64]
  unfold zz
  by_cases h : n < 0
  · have e1 : n / 9223372036854775808 % 18446744073709551616 = 18446744073709551615 := by omega
    have e2 : n % 18446744073709551616 * 2 % 18446744073709551616 = 2 * n + 18446744073709551616 := by omega
    rw [if_pos h, e1, e2, u64_xor _ _ (by omega) (by omega) (by omega) (by omega)]
    have e3 : (18446744073709551615 : Int).toNat = 2 ^ 64 - 1 := by decide
    rw [e3, xor_ones _ (by omega)]
    omega
  · have e1 : n / 9223372036854775808 % 18446744073709551616 = 0 := by omega
    have e2 : n % 18446744073709551616 * 2 % 18446744073709551616 = 2 * n := by omega
    rw [if_neg h, e1, e2, u64_xor _ _ (by omega) (by omega) (by omega) (by omega)]
    have e3 : (0 : Int).toNat = 0 := rfl
    rw [e3, Nat.xor_zero]
    omega
theorem unzig_bits (u : Int) (h1 : 0 ≤ u) (h2 : u ≤ 18446744073709551615) :
    bits BinOp.xor IntKind.i64 (u / 2) (RowKit.wrap64 (-RowKit.wrap64 (bits BinOp.and IntKind.u64 u 1))) = unz u := by
  rw [and_one_u64 u h1 h2]
  rw [IntWalk.wrap64_in (u % 2) ⟨by omega, by omega⟩, IntWalk.wrap64_in (-(u % 2)) ⟨by omega, by omega⟩]
  unfold unz
  by_cases h : u % 2 = 1
  · rw [if_pos h, h]
    show IntKind.i64.wrap ((BitVec.ofInt 64 (u / 2) ^^^ BitVec.ofInt 64 (-1)).toNat : Int) = _
    have e1 : BitVec.ofInt 64 (-1) = BitVec.allOnes 64 := by decide
    rw [e1, BitVec.xor_allOnes, BitVec.toNat_not]
    have e2 : (BitVec.ofInt 64 (u / 2)).toNat = (u / 2).toNat := by
      obtain ⟨m, hm⟩ : ∃ m : Nat, u / 2 = (m : Int) := ⟨(u / 2).toNat, by omega⟩
      rw [hm, BitVec.ofInt_natCast, BitVec.toNat_ofNat, Nat.mod_eq_of_lt (by omega)]; rfl
    rw [e2, IntKind.wrap_i64]
    omega
  · rw [if_neg h]
    have h0 : u % 2 = 0 := by omega
    rw [h0]
    show IntKind.i64.wrap ((BitVec.ofInt 64 (u / 2) ^^^ BitVec.ofInt 64 (-0)).toNat : Int) = _
    have e1 : BitVec.ofInt 64 (-0) = 0#64 := by decide
    rw [e1, BitVec.xor_zero]
    have e2 : (BitVec.ofInt 64 (u / 2)).toNat = (u / 2).toNat := by
      obtain ⟨m, hm⟩ : ∃ m : Nat, u / 2 = (m : Int) := ⟨(u / 2).toNat, by omega⟩
      rw [hm, BitVec.ofInt_natCast, BitVec.toNat_ofNat, Nat.mod_eq_of_lt (by omega)]; rfl
    rw [e2, IntKind.wrap_i64]
    omega
/-- A digit that is put over bits that are 0 is added. -/
theorem or_digit (i : Nat) (acc d : Int) (h0 : 0 ≤ acc) (ha : acc < 128 ^ i) (hd : 0 ≤ d) (hb : d * 128 ^ i < 18446744073709551616) (hacc : acc < 18446744073709551616) :
    bits BinOp.or IntKind.u64 acc (d * 128 ^ i) = acc + d * 128 ^ i := by
  obtain ⟨a, rfl⟩ := Int.eq_ofNat_of_zero_le h0
  obtain ⟨c, rfl⟩ := Int.eq_ofNat_of_zero_le hd
  have e : ((128 : Int) ^ i) = ((128 ^ i : Nat) : Int) := by simp
  have e1 : (c : Int) * 128 ^ i = ((c * 128 ^ i : Nat) : Int) := by rw [e]; simp
  rw [e1] at hb ⊢
  rw [e] at ha
  rw [u64_or_nat a (c * 128 ^ i) (by omega) (by omega)]
  have e2 : (128 : Nat) ^ i = 2 ^ (7 * i) := by rw [Nat.pow_mul]
  have := nat_join (7 * i) (c * 128 ^ i) a (by rw [e2]; exact Nat.mul_mod_left _ _) (by rw [← e2]; omega)
  rw [Nat.or_comm, this]
  omega
theorem or_step (k : Nat) (acc x : Int) (hk : k < 9) (h0 : 0 ≤ acc) (ha : acc < 128 ^ k) : bits BinOp.or IntKind.u64 acc (IntKind.u64.wrap (x % 128 * 2 ^ (7 * k))) = acc + x % 128 * 128 ^ k := by
  have e : (2 : Int) ^ (7 * k) = 128 ^ k := by rw [Int.pow_mul]; rfl
  have hp : (0 : Int) < 128 ^ k := Int.pow_pos (by omega)
  have hm : (128 : Int) ^ k ≤ 128 ^ 8 := pow_up (by omega)
  have h8 : (128 : Int) ^ 8 = 72057594037927936 := by decide
  have hle : x % 128 * 128 ^ k ≤ 127 * 128 ^ k := Int.mul_le_mul_of_nonneg_right (by omega) (by omega)
  have hge : 0 ≤ x % 128 * 128 ^ k := Int.mul_nonneg (by omega) (by omega)
  rw [e, IntKind.wrap_u64, Int.emod_eq_of_lt hge (by omega)]
  exact or_digit k acc (x % 128) h0 ha (by omega) (by omega) (by omega)
theorem or_step_lt (k : Nat) (acc x : Int) (ha : acc < 128 ^ k) : acc + x % 128 * 128 ^ k < 128 ^ (k + 1) := by
  have hp : (0 : Int) < 128 ^ k := Int.pow_pos (by omega)
  have hle : x % 128 * 128 ^ k ≤ 127 * 128 ^ k := Int.mul_le_mul_of_nonneg_right (by omega) (by omega)
  rw [Int.pow_succ]; omega
theorem or_step_lo (k : Nat) (acc x : Int) (h0 : 0 ≤ acc) : 0 ≤ acc + x % 128 * 128 ^ k := by
  have hp : (0 : Int) < 128 ^ k := Int.pow_pos (by omega)
  have hge : 0 ≤ x % 128 * 128 ^ k := Int.mul_nonneg (by omega) (by omega)
  omega
theorem or_last (acc : Int) (h0 : 0 ≤ acc) (ha : acc < 128 ^ 9) : bits BinOp.or IntKind.u64 acc (1 * 9223372036854775808) = acc + 1 * 128 ^ 9 := by
  have e : (128 : Int) ^ 9 = 9223372036854775808 := by decide
  have := or_digit 9 acc 1 h0 ha (by omega) (by rw [e]; omega) (by rw [e] at ha; omega)
  rwa [e] at this ⊢
end Nm
end Go.Proofs.Ytljgalleiemaaaa
