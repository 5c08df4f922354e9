/- Package column: Ends. -/
import Derived.Deep.RegionHeld3
import Derived.Test.YtnhgijlhnamolaaGreatDoorPk28
namespace Go.Proofs.YtnhgijlhnamolaaGreatDoor
set_option maxRecDepth 20000
open Go.RowKit
namespace Cx
open Va (Vl May ord null)
open Sc (tr tr_yes tr_no tr_iff)
open Co
open Bi (I64)
theorem res_cellE {fn : Func} {p q u : Tmp} {ty ty' : TypeId} (h : fn.results = #[.cell p ty, .cell q ty', .tmp u]) (tmps : Array Value) (P : Program) (w : World) :
    (results fn tmps).run P w = ((asAddr (tmps.getD p undef)).run P w).andThen fun a w₁ => ((loadVar ty a).run P w₁).andThen fun x w₂ => ((asAddr (tmps.getD q undef)).run P w₂).andThen fun b w₃ => ((loadVar ty' b).run P w₃).andThen fun y w₄ => .ok (.tuple #[x, y, tmps.getD u undef]) w₄ := by
  simp only [results, h]
  simp [Sem.run_bind, Result.andThen]
theorem cell_drew (w : World) (a : Addr) : w.drew.cell? a = w.cell? a := rfl
theorem cell_set4 {w : World} {g b off : Nat} {a0 a1 a2 a3 v : Value} (hne : b ≠ g) (h : w.cell? ⟨b, off, none⟩ = some v) : ((((w.setCell ⟨g, 0, none⟩ a0).setCell ⟨g, 1, none⟩ a1).setCell ⟨g, 2, none⟩ a2).setCell ⟨g, 3, none⟩ a3).cell? ⟨b, off, none⟩ = some v := by
  rw [World.cell?_setCell_other _ _ _ _ (fun q => hne (by cases q; rfl)), World.cell?_setCell_other _ _ _ _ (fun q => hne (by cases q; rfl)), World.cell?_setCell_other _ _ _ _ (fun q => hne (by cases q; rfl)), World.cell?_setCell_other _ _ _ _ (fun q => hne (by cases q; rfl))]
  exact h
theorem cell_set4d {w : World} {g b off : Nat} {a0 a1 a2 a3 v : Value} (hne : b ≠ g) (h : w.cell? ⟨b, off, none⟩ = some v) : ((((w.setCell ⟨g, 0, none⟩ a0).setCell ⟨g, 1, none⟩ a1).setCell ⟨g, 2, none⟩ a2).setCell ⟨g, 3, none⟩ a3).drew.cell? ⟨b, off, none⟩ = some v := by
  rw [cell_drew]
  exact cell_set4 hne h
theorem drew_cell {w : World} {a : Addr} {v : Value} (h : w.cell? a = some v) : w.drew.cell? a = some v := by
  rw [cell_drew]
  exact h
theorem below_set4 {B : Nat} {w w' : World} {g : Nat} {a0 a1 a2 a3 : Value} (h : Below B w w') (hg : B ≤ g) : Below B w ((((w'.setCell ⟨g, 0, none⟩ a0).setCell ⟨g, 1, none⟩ a1).setCell ⟨g, 2, none⟩ a2).setCell ⟨g, 3, none⟩ a3) :=
  (((h.setCell hg _).setCell hg _).setCell hg _).setCell hg _
/-- What Ends answers. -/
def OutE (w : World) (r : Vl × Vl × Bool) (e : Ending) (w' : World) : Prop := ∃ k x s b k' x' s' b' t, (⟨k, x, s, b⟩, ⟨k', x', s', b'⟩, t) = r ∧ e = .returned (.tuple #[.agg #[.int .i64 k, .int .i64 x, .string s, .bool b], .agg #[.int .i64 k', .int .i64 x', .string s', .bool b'], .bool t]) ∧ Below w.heap.size w w'
set_option maxHeartbeats 8000000 in
theorem ends_any (A : Option Addr) (n c : Nat) (B : Option Addr) (m d : Nat) (C : Col) (w : World) (h : Cl w A n c B m d C) (hn : n ≤ 1000) (hm : m ≤ 1000000) :
    Calls Tryz.prog 19 #[.agg #[.int .i64 C.n, .slice A n c, .slice B m d]] w (OutE w (ends C)) := by
  have hb0 := (Below.refl w.heap.size w).alloc (Nat.le_refl _) (.cells #[.int .i64 C.n, .slice A n c, .slice B m d] 25)
  have hb1 := hb0.alloc hb0.size (.cells #[.int .i64 0, .int .i64 0, .string ⟨#[]⟩, .bool false] 34)
  have hb2 := hb1.alloc hb1.size (.cells #[.int .i64 0, .int .i64 0, .string ⟨#[]⟩, .bool false] 34)
  obtain ⟨wa, hwa⟩ : ∃ wa, wa = ((w.alloc (.cells #[.int .i64 C.n, .slice A n c, .slice B m d] 25)).alloc (.cells #[.int .i64 0, .int .i64 0, .string ⟨#[]⟩, .bool false] 34)).alloc (.cells #[.int .i64 0, .int .i64 0, .string ⟨#[]⟩, .bool false] 34) := ⟨_, rfl⟩
  have x0 : Cb wa w.heap.size C.n A n c B m d := by rw [hwa]; exact ⟨((Cb.new w C.n A n c B m d).bx.alloc _).alloc _⟩
  have v0 : Vc.Vb wa (w.heap.size + 1) 0 0 ⟨#[]⟩ false := by
    have := Wd.Bx.new (w.alloc (.cells #[.int .i64 C.n, .slice A n c, .slice B m d] 25)) 34 #[.int .i64 0, .int .i64 0, .string ⟨#[]⟩, .bool false]
    rw [World.size_alloc] at this
    rw [hwa]
    exact this.alloc _
  have v1 : Vc.Vb wa (w.heap.size + 2) 0 0 ⟨#[]⟩ false := by
    have := Wd.Bx.new ((w.alloc (.cells #[.int .i64 C.n, .slice A n c, .slice B m d] 25)).alloc (.cells #[.int .i64 0, .int .i64 0, .string ⟨#[]⟩, .bool false] 34)) 34 #[.int .i64 0, .int .i64 0, .string ⟨#[]⟩, .bool false]
    rw [World.size_alloc, World.size_alloc] at this
    rw [hwa]
    exact this
  rw [← hwa] at hb2
  have C1 := Lib.hid (cmay_any A n c B m d C _ (h.below hb2) hn hm)
  have hcap := h.dict.cap
  have hmx := h.dict.max
  unfold maxLen at hmx
  have HD := Lib.hid h.dict
  have Hn := Lib.hid h.dict.len
  have Hb2 := Lib.hid hb2
  obtain ⟨R, hR⟩ : ∃ R, R = ends C := ⟨_, rfl⟩
  have Hno := Lib.hid (show ¬ (Valid C ∧ fst1 C.dict < C.dict.length) → R = (null, null, false) from fun q => by rw [hR]; unfold ends; rw [tr_no q]; rfl)
  have Hyes := Lib.hid (show Valid C ∧ fst1 C.dict < C.dict.length → R = (C.dict.getD (fst1 C.dict) default, C.dict.getD (C.dict.length - 1) default, true) from fun q => by rw [hR]; unfold ends; rw [if_pos (tr_yes q)])
  rw [← hR]
  obtain ⟨N, hN⟩ : ∃ N, N = C.n := ⟨_, rfl⟩
  rw [← hN] at x0 C1 hwa ⊢
  obtain ⟨r, hr⟩ : ∃ r, r = tr (Valid C) := ⟨_, rfl⟩
  rw [← hr] at C1
  have Hr := Lib.hid hr
  have Hwa := Lib.hid hwa
  have c0 := x0.c0
  have c1 := x0.c1
  have c2 := x0.c2
  clear h hb0 hb1 hb2 hR hN hr hwa
  go_enter Tryz.func19, Tryz.ntmps19
  go_wp2_with fail
  rw [← Hwa.out]
  go_wp2_with fail
  refine C1.out.mono ?_
  rintro e w1 ⟨rfl, hB1⟩
  have y0 := x0.below x0.lt hB1
  have u0 := Wd.Bx.below v0 (Wd.Bx.lt v0) hB1
  have u1 := Wd.Bx.below v1 (Wd.Bx.lt v1) hB1
  have hb1 := Hb2.out.trans (hB1.mono Hb2.out.size)
  have HD1 := Lib.hid (HD.out.below hb1)
  have HB1 := Lib.hid hb1
  obtain ⟨⟨g0, g1, g2, g3⟩, f0, f1, f2, f3⟩ := Vc.four u0
  obtain ⟨⟨k0, k1, k2, k3⟩, l0, l1, l2, l3⟩ := Vc.four u1
  have hc1 := y0.c1
  have hbs := Lib.hid (fun (k i : Int) (s : ByteArray) (b : Bool) (k' i' : Int) (s' : ByteArray) (b' : Bool) => Vc.below_setV (k := k') (i := i') (s := s') (b := b') (Vc.below_setV (k := k) (i := i) (s := s) (b := b) HB1.out (show w.heap.size ≤ w.heap.size + 1 by omega)) (show w.heap.size ≤ w.heap.size + 2 by omega))
  clear c0 c1 c2 x0 v0 v1 u0 u1 hB1 C1 hb1 y0
  have no : R = (null, null, false) → ∀ w', Below w.heap.size w w' → OutE w R (.returned (.tuple #[.agg #[.int .i64 0, .int .i64 0, .string ⟨#[]⟩, .bool false], .agg #[.int .i64 0, .int .i64 0, .string ⟨#[]⟩, .bool false], .bool false])) w' := fun q w' hb => ⟨0, 0, ⟨#[]⟩, false, 0, 0, ⟨#[]⟩, false, false, q.symm, rfl, hb⟩
  have No := Lib.hid no
  clear no
  cases r with
  | false =>
    have e0 := Lib.hid (Hno.out (fun q => by have := Hr.out; rw [tr_yes q.1] at this; cases this))
    go_wp2_with fail
    (try simp only [Exit.inBlock, Exit.then])
    refine bodyPost_ret (v := .tuple #[.agg #[.int .i64 0, .int .i64 0, .string ⟨#[]⟩, .bool false], .agg #[.int .i64 0, .int .i64 0, .string ⟨#[]⟩, .bool false], .bool false]) ?_ rfl (No.out e0.out _ (hbs.out 0 0 ⟨#[]⟩ false 0 0 ⟨#[]⟩ false))
    rw [res_cellE rfl]; go_simp
  | true =>
  have Hv := Lib.hid (show Valid C from tr_iff.1 Hr.out.symm)
  by_cases hn0 : n = 0
  · have e0 := Lib.hid (Hno.out (fun q => by have := q.2; have := Hn.out; omega))
    subst hn0
    go_wp2_with fail
    (try simp only [Exit.inBlock, Exit.then])
    refine bodyPost_ret (v := .tuple #[.agg #[.int .i64 0, .int .i64 0, .string ⟨#[]⟩, .bool false], .agg #[.int .i64 0, .int .i64 0, .string ⟨#[]⟩, .bool false], .bool false]) ?_ rfl (No.out e0.out _ (hbs.out 0 0 ⟨#[]⟩ false 0 0 ⟨#[]⟩ false))
    rw [res_cellE rfl]; go_simp
  have hnp : 0 < n := by omega
  obtain ⟨b, o, hA, hbw, -⟩ := HD.out.cells (j := 0) (by rw [← Hn.out]; exact hnp) rfl
  subst hA
  obtain ⟨b', o', hA, -, d0, d1, d2, d3, -⟩ := HD1.out.cells (j := 0) (by rw [← Hn.out]; exact hnp) rfl
  cases hA
  have hne1 : b ≠ w.heap.size + 1 := by omega
  have hne2 : b ≠ w.heap.size + 1 + 1 := by omega
  obtain ⟨x, hx⟩ : ∃ x, x = C.dict.getD 0 default := ⟨_, rfl⟩
  rw [← hx] at d0 d1 d2 d3
  simp only [Nat.zero_mul, Nat.add_zero] at d0 d1 d2 d3
  have Hx := Lib.hid hx
  clear hx
  by_cases hk : x.kind = 0
  · have hf : fst1 C.dict = 1 := by unfold fst1; rw [if_pos ⟨by rw [← Hx.out]; exact hk, by rw [← Hn.out]; exact hnp⟩]
    rw [hk] at d0
    by_cases hn1 : n = 1
    · have e0 := Lib.hid (Hno.out (fun q => by have := q.2; have := Hn.out; omega))
      subst hn1
      by_cases hc : c = 1
      · subst hc
        clear hf
        go_wp2_with fail
        (try simp only [Exit.inBlock, Exit.then])
        refine bodyPost_ret (v := .tuple #[.agg #[.int .i64 0, .int .i64 0, .string ⟨#[]⟩, .bool false], .agg #[.int .i64 0, .int .i64 0, .string ⟨#[]⟩, .bool false], .bool false]) ?_ rfl (No.out e0.out _ (hbs.out 0 0 ⟨#[]⟩ false 0 0 ⟨#[]⟩ false))
        rw [res_cellE rfl]; go_simp
      · have hc' : 1 < c := by omega
        clear hf
        go_wp2_with fail
        (try simp only [Exit.inBlock, Exit.then])
        refine bodyPost_ret (v := .tuple #[.agg #[.int .i64 0, .int .i64 0, .string ⟨#[]⟩, .bool false], .agg #[.int .i64 0, .int .i64 0, .string ⟨#[]⟩, .bool false], .bool false]) ?_ rfl (No.out e0.out _ (hbs.out 0 0 ⟨#[]⟩ false 0 0 ⟨#[]⟩ false))
        rw [res_cellE rfl]; go_simp
    · have hn2 : 2 ≤ n := by omega
      have hc2 : 1 < c := by omega
      obtain ⟨b', o', hA, -, p0, p1, p2, p3, -⟩ := HD1.out.cells (j := 1) (by rw [← Hn.out]; omega) rfl
      cases hA
      obtain ⟨b', o', hA, -, q0, q1, q2, q3, -⟩ := HD1.out.cells (j := n - 1) (by rw [← Hn.out]; omega) rfl
      cases hA
      have he := Hyes.out ⟨Hv.out, by have := Hn.out; omega⟩
      rw [hf, ← Hn.out] at he
      obtain ⟨y, hy⟩ : ∃ y, y = C.dict.getD 1 default := ⟨_, rfl⟩
      obtain ⟨z, hz⟩ : ∃ z, z = C.dict.getD (n - 1) default := ⟨_, rfl⟩
      rw [← hy] at p0 p1 p2 p3 he
      rw [← hz] at q0 q1 q2 q3 he
      obtain ⟨yk, yi, ys, yb⟩ := y
      obtain ⟨zk, zi, zs, zb⟩ := z
      have He := Lib.hid he
      rw [show o + (n - 1) * 4 = o + 4 + (n - 1 - 1) * 4 by omega] at q0 q1 q2 q3
      have hn3 : 0 < n - 1 := by omega
      have hw1 : IntKind.i64.wrap ((((n - 1 : Nat)) : Int) - 1) = (((n - 1 : Nat)) : Int) - 1 := by rw [IntKind.wrap_i64]; omega
      have hw2 : (0 : Int) ≤ (((n - 1 : Nat)) : Int) - 1 := by omega
      have hw3 : (((n - 1 : Nat)) : Int) - 1 < (((n - 1 : Nat)) : Int) := by omega
      have hw4 : ((((n - 1 : Nat)) : Int) - 1).toNat = n - 1 - 1 := by omega
      have hw5 : (1 : Int) ≤ (((n - 1 : Nat)) : Int) := by omega
      clear hf hy hz he
      go_wp2_with fail
      go_region_held3 (fun w' => (w'.cell? ⟨b, o + 4, none⟩ = some (.int .i64 yk) ∧ w'.cell? ⟨b, o + 4 + 1, none⟩ = some (.int .i64 yi) ∧ w'.cell? ⟨b, o + 4 + 2, none⟩ = some (.string ys) ∧ w'.cell? ⟨b, o + 4 + 3, none⟩ = some (.bool yb)) ∧ w'.cell? ⟨b, o + 4 + (n - 1 - 1) * 4, none⟩ = some (.int .i64 zk) ∧ w'.cell? ⟨b, o + 4 + (n - 1 - 1) * 4 + 1, none⟩ = some (.int .i64 zi) ∧ w'.cell? ⟨b, o + 4 + (n - 1 - 1) * 4 + 2, none⟩ = some (.string zs) ∧ w'.cell? ⟨b, o + 4 + (n - 1 - 1) * 4 + 3, none⟩ = some (.bool zb)) (with_reducible first
        | exact And.intro ⟨drew_cell p0, drew_cell p1, drew_cell p2, drew_cell p3⟩ ⟨drew_cell q0, drew_cell q1, drew_cell q2, drew_cell q3⟩
        | exact And.intro ⟨cell_set4d hne1 p0, cell_set4d hne1 p1, cell_set4d hne1 p2, cell_set4d hne1 p3⟩ ⟨cell_set4d hne1 q0, cell_set4d hne1 q1, cell_set4d hne1 q2, cell_set4d hne1 q3⟩
        | exact And.intro ⟨cell_set4d hne2 p0, cell_set4d hne2 p1, cell_set4d hne2 p2, cell_set4d hne2 p3⟩ ⟨cell_set4d hne2 q0, cell_set4d hne2 q1, cell_set4d hne2 q2, cell_set4d hne2 q3⟩
        | exact And.intro ⟨cell_set4d hne2 (cell_set4 hne1 p0), cell_set4d hne2 (cell_set4 hne1 p1), cell_set4d hne2 (cell_set4 hne1 p2), cell_set4d hne2 (cell_set4 hne1 p3)⟩ ⟨cell_set4d hne2 (cell_set4 hne1 q0), cell_set4d hne2 (cell_set4 hne1 q1), cell_set4d hne2 (cell_set4 hne1 q2), cell_set4d hne2 (cell_set4 hne1 q3)⟩
        | exact And.intro ⟨cell_set4d hne1 (cell_set4 hne2 p0), cell_set4d hne1 (cell_set4 hne2 p1), cell_set4d hne1 (cell_set4 hne2 p2), cell_set4d hne1 (cell_set4 hne2 p3)⟩ ⟨cell_set4d hne1 (cell_set4 hne2 q0), cell_set4d hne1 (cell_set4 hne2 q1), cell_set4d hne1 (cell_set4 hne2 q2), cell_set4d hne1 (cell_set4 hne2 q3)⟩) (fail)
      all_goals (
        go_wp2_with fail
        (try simp only [Exit.inBlock, Exit.then])
        refine bodyPost_ret (v := .tuple #[.agg #[.int .i64 yk, .int .i64 yi, .string ys, .bool yb], .agg #[.int .i64 zk, .int .i64 zi, .string zs, .bool zb], .bool true]) ?_ rfl ⟨yk, yi, ys, yb, zk, zi, zs, zb, true, He.out.symm, rfl, ?_⟩
        · rw [res_cellE rfl]; go_simp
        · with_reducible exact (below_set4 (g := w.heap.size + 1 + 1) (below_set4 (g := w.heap.size + 1) HB1.out (by omega)) (by omega)).drew)
  · have hf : fst1 C.dict = 0 := by unfold fst1; rw [if_neg (fun q => hk (by rw [Hx.out]; exact q.1))]
    have hkb : (x.kind == 0) = false := by simpa using hk
    obtain ⟨b', o', hA, -, q0, q1, q2, q3, -⟩ := HD1.out.cells (j := n - 1) (by rw [← Hn.out]; omega) rfl
    cases hA
    have he := Hyes.out ⟨Hv.out, by have := Hn.out; omega⟩
    rw [hf, ← Hn.out, ← Hx.out] at he
    obtain ⟨z, hz⟩ : ∃ z, z = C.dict.getD (n - 1) default := ⟨_, rfl⟩
    rw [← hz] at q0 q1 q2 q3 he
    obtain ⟨xk, xi, xs, xb⟩ := x
    obtain ⟨zk, zi, zs, zb⟩ := z
    have He := Lib.hid he
    have hw1 : IntKind.i64.wrap ((n : Int) - 1) = (n : Int) - 1 := by rw [IntKind.wrap_i64]; omega
    have hw2 : (0 : Int) ≤ (n : Int) - 1 := by omega
    have hw3 : (n : Int) - 1 < (n : Int) := by omega
    have hw4 : ((n : Int) - 1).toNat = n - 1 := by omega
    have hw5 : (1 : Int) ≤ (n : Int) := by omega
    clear hf hz he hk
    go_wp2_with fail
    go_region_held3 (fun w' => (w'.cell? ⟨b, o, none⟩ = some (.int .i64 xk) ∧ w'.cell? ⟨b, o + 1, none⟩ = some (.int .i64 xi) ∧ w'.cell? ⟨b, o + 2, none⟩ = some (.string xs) ∧ w'.cell? ⟨b, o + 3, none⟩ = some (.bool xb)) ∧ w'.cell? ⟨b, o + (n - 1) * 4, none⟩ = some (.int .i64 zk) ∧ w'.cell? ⟨b, o + (n - 1) * 4 + 1, none⟩ = some (.int .i64 zi) ∧ w'.cell? ⟨b, o + (n - 1) * 4 + 2, none⟩ = some (.string zs) ∧ w'.cell? ⟨b, o + (n - 1) * 4 + 3, none⟩ = some (.bool zb)) (with_reducible first
        | exact And.intro ⟨drew_cell d0, drew_cell d1, drew_cell d2, drew_cell d3⟩ ⟨drew_cell q0, drew_cell q1, drew_cell q2, drew_cell q3⟩
        | exact And.intro ⟨cell_set4d hne1 d0, cell_set4d hne1 d1, cell_set4d hne1 d2, cell_set4d hne1 d3⟩ ⟨cell_set4d hne1 q0, cell_set4d hne1 q1, cell_set4d hne1 q2, cell_set4d hne1 q3⟩
        | exact And.intro ⟨cell_set4d hne2 d0, cell_set4d hne2 d1, cell_set4d hne2 d2, cell_set4d hne2 d3⟩ ⟨cell_set4d hne2 q0, cell_set4d hne2 q1, cell_set4d hne2 q2, cell_set4d hne2 q3⟩
        | exact And.intro ⟨cell_set4d hne2 (cell_set4 hne1 d0), cell_set4d hne2 (cell_set4 hne1 d1), cell_set4d hne2 (cell_set4 hne1 d2), cell_set4d hne2 (cell_set4 hne1 d3)⟩ ⟨cell_set4d hne2 (cell_set4 hne1 q0), cell_set4d hne2 (cell_set4 hne1 q1), cell_set4d hne2 (cell_set4 hne1 q2), cell_set4d hne2 (cell_set4 hne1 q3)⟩
        | exact And.intro ⟨cell_set4d hne1 (cell_set4 hne2 d0), cell_set4d hne1 (cell_set4 hne2 d1), cell_set4d hne1 (cell_set4 hne2 d2), cell_set4d hne1 (cell_set4 hne2 d3)⟩ ⟨cell_set4d hne1 (cell_set4 hne2 q0), cell_set4d hne1 (cell_set4 hne2 q1), cell_set4d hne1 (cell_set4 hne2 q2), cell_set4d hne1 (cell_set4 hne2 q3)⟩) (fail)
    all_goals (
      go_wp2_with fail
      (try simp only [Exit.inBlock, Exit.then])
      refine bodyPost_ret (v := .tuple #[.agg #[.int .i64 xk, .int .i64 xi, .string xs, .bool xb], .agg #[.int .i64 zk, .int .i64 zi, .string zs, .bool zb], .bool true]) ?_ rfl ⟨xk, xi, xs, xb, zk, zi, zs, zb, true, He.out.symm, rfl, ?_⟩
      · rw [res_cellE rfl]; go_simp
      · with_reducible exact (below_set4 (g := w.heap.size + 1 + 1) (below_set4 (g := w.heap.size + 1) HB1.out (by omega)) (by omega)).drew)
end Cx
end Go.Proofs.YtnhgijlhnamolaaGreatDoor
