/- The walk of the statement ColumnParts of layer 10. -/
import Derived.Test.YtnhgijlhnamolaaDoorPk29
import Derived.Test.YtnhgijlhnamolaaDoorPk30
namespace Go.Proofs.YtnhgijlhnamolaaDoor
set_option maxRecDepth 20000
open Go.RowKit
namespace Co
open Va (Vl May ord null)
theorem add_in (a b : Nat) (ha : a ≤ 4096) (hb : b ≤ 4096) : IntKind.i64.wrap ((a : Int) + (b : Int)) = (a : Int) + (b : Int) :=
  IntWalk.i64_in _ (by omega)
theorem dec_in (n a b : Nat) (ha : a ≤ 4096) (hb : b ≤ 4096) (h : n ≤ a + b) : decide ((n : Int) ≤ IntKind.i64.wrap ((a : Int) + (b : Int))) = true := by
  rw [add_in a b ha hb]
  exact decide_eq_true (by omega)
theorem addw_in (a b : Nat) (ha : a ≤ 4096) (hb : b ≤ 4096) : wrap64 ((a : Int) + (b : Int)) = (a : Int) + (b : Int) :=
  IntWalk.wrap64_in _ ⟨by omega, by omega⟩
theorem add_le (n a b : Nat) (h : n ≤ a + b) : (n : Int) ≤ (a : Int) + (b : Int) := by omega
theorem rng_len (C : Col) (lo hi : Int) : (rng C lo hi).length = (List.range (nums C).length).countP fun r => decide (lo ≤ (nums C).getD r 0 ∧ (nums C).getD r 0 < hi) := by
  unfold rng
  rw [List.length_map, List.countP_eq_length_filter]
theorem rng_le (C : Col) (lo hi : Int) : (rng C lo hi).length ≤ 4096 := by
  rw [rng_len]
  have := List.countP_le_length (p := fun r => decide (lo ≤ (nums C).getD r 0 ∧ (nums C).getD r 0 < hi)) (l := List.range (nums C).length)
  have h2 := nums_4096 C
  simp only [List.length_range] at this
  omega
theorem nums_bd {C : Col} {r : Nat} (h : r < (nums C).length) : 0 ≤ (nums C).getD r 0 ∧ (nums C).getD r 0 < (C.dict.length : Int) := by
  have : (nums C).getD r 0 ∈ nums C := by
    rw [List.getD_eq_getElem?_getD, List.getElem?_eq_getElem h]
    exact List.getElem_mem h
  exact (nums_in this).2
theorem count_split {α : Type} (p q t : α → Bool) : ∀ l : List α, (∀ x ∈ l, t x = true ↔ (p x = true ∨ q x = true)) → (∀ x ∈ l, ¬ (p x = true ∧ q x = true)) → l.countP t = l.countP p + l.countP q
  | [], _, _ => rfl
  | a :: l, h1, h2 => by
    have ih := count_split p q t l (fun x hx => h1 x (List.mem_cons_of_mem _ hx)) (fun x hx => h2 x (List.mem_cons_of_mem _ hx))
    have a1 := h1 a (by simp)
    have a2 := h2 a (by simp)
    simp only [List.countP_cons, ih]
    cases hp : p a <;> cases hq : q a <;> cases ht : t a <;> simp_all <;> omega
theorem count_cover {α : Type} (p q : α → Bool) : ∀ l : List α, (∀ x ∈ l, p x = true ∨ q x = true) → l.length ≤ l.countP p + l.countP q
  | [], _ => Nat.le_refl _
  | a :: l, h1 => by
    have ih := count_cover p q l (fun x hx => h1 x (List.mem_cons_of_mem _ hx))
    have a1 := h1 a (by simp)
    simp only [List.countP_cons, List.length_cons]
    cases hp : p a <;> cases hq : q a <;> simp_all <;> omega
theorem rng_next (C : Col) (i : Nat) : (rng C 0 ((i : Int) + 1)).length = (rng C 0 (i : Int)).length + (rng C (i : Int) ((i : Int) + 1)).length := by
  rw [rng_len, rng_len, rng_len]
  refine count_split _ _ _ _ (fun r hr => ?_) (fun r hr => ?_)
  · have := nums_bd (List.mem_range.1 hr)
    simp only [decide_eq_true_eq]
    omega
  · simp only [decide_eq_true_eq]
    omega
theorem rng_zero (C : Col) : (rng C 0 0).length = 0 := by
  rw [rng_len, List.countP_eq_zero]
  intro r _
  simp only [decide_eq_true_eq]
  omega
theorem rng_all (C : Col) : (rng C 0 (C.dict.length : Int)).length = (nums C).length := by
  rw [rng_len, List.countP_eq_length.2 (fun r hr => by
    have := nums_bd (List.mem_range.1 hr)
    simp only [decide_eq_true_eq]
    exact this)]
  simp
theorem rng_cover (C : Col) (k : Int) : (nums C).length ≤ (rng C 0 k).length + (rng C k (C.dict.length : Int)).length := by
  rw [rng_len, rng_len]
  have := count_cover (fun r => decide (0 ≤ (nums C).getD r 0 ∧ (nums C).getD r 0 < k)) (fun r => decide (k ≤ (nums C).getD r 0 ∧ (nums C).getD r 0 < (C.dict.length : Int))) (List.range (nums C).length) (fun r hr => by
    have := nums_bd (List.mem_range.1 hr)
    simp only [decide_eq_true_eq]
    omega)
  rwa [List.length_range] at this
/-- A row in the range of one value has that value. -/
theorem rng_val {C : Col} {i : Nat} {x : Int} (h : x ∈ rng C (i : Int) ((i : Int) + 1)) : ∃ r : Nat, x = (r : Int) ∧ r < (values C).length ∧ (values C).getD r default = C.dict.getD i default := by
  obtain ⟨r, rfl, hr, h1, h2⟩ := mem_rng.1 h
  refine ⟨r, rfl, by rw [values_len]; exact hr, ?_⟩
  have e : (nums C).getD r 0 = (i : Int) := by omega
  unfold values
  rw [List.getD_eq_getElem?_getD, List.getElem?_map, List.getElem?_eq_getElem hr, Option.map_some, Option.getD_some]
  rw [List.getD_eq_getElem?_getD, List.getElem?_eq_getElem hr, Option.getD_some] at e
  rw [e, Int.toNat_natCast]
end Co
namespace Lw
open Va (Vl May ord null)
open Sc (tr tr_yes tr_no tr_iff)
open Co Cx
open Bi (I64 Gv hd hd_all)
set_option maxRecDepth 100000 in
set_option maxHeartbeats 16000000 in
theorem columnParts_walk (A : Option Addr) (n c : Nat) (l : List Vl) (kk : Int) (w : World) (hV : Wd.Vs w A n c l) (hT : Bi.Tab w) :
    Calls Tryd.prog 5 #[.slice A n c, .int .i64 kk] w fun e w' => e = .returned (.bool true) ∧ Below w.heap.size w w' := by
  have HV := Lib.hid hV
  have HT := Lib.hid hT
  have Hn := Lib.hid hV.len
  have hcap := hV.cap
  have hmx := hV.max
  unfold maxLen at hmx
  obtain ⟨f, hf⟩ : ∃ f, f = tr (FewC l) := ⟨_, rfl⟩
  have Hf := Lib.hid hf
  clear hf hV hT
  go_enter Tryd.func5, Tryd.ntmps5
  go_wp2_with fail
  refine (Cx.awake_any w HT.out).mono ?_
  rintro e w1 ⟨rfl, hb1⟩
  have Cf := few_any A n c l w1 (HV.out.below hb1)
  rw [← Hf.out] at Cf
  have CF := Lib.hid Cf
  clear Cf
  go_wp2_with fail
  refine CF.out.mono ?_
  rintro e w1' ⟨rfl, hq⟩
  have hq' := hq.symm
  clear hq
  subst hq'
  clear CF
  cases f with
  | false =>
    go_wp2_with fail
    go_ret
    exact ⟨rfl, hb1⟩
  | true =>
  have hF := tr_iff.1 Hf.out.symm
  have hs := few_size hF
  have hl4 : l.length ≤ 4096 := by have := hF.1; omega
  have hn200 : n ≤ 200 := by rw [Hn.out]; exact hF.1
  have C1 := cbuild_any A n c l w1 (HV.out.below hb1) hs
  have Hb1 := Lib.hid hb1
  clear hb1 hs
  by_cases hm : ∀ v ∈ l, May v
  case neg =>
    rw [build_bad hl4 hm] at C1
    have C1' := Lib.hid C1
    clear C1 hm hF
    go_wp2_with fail
    refine C1'.out.mono ?_
    rintro e w2 ⟨A1, n1, c1, B1, m1, d1, he, hCl, hB2⟩
    replace he : e = .returned (.tuple #[.agg #[.int .i64 0, .slice A1 n1 c1, .slice B1 m1 d1], .int .i64 1]) := he
    subst he
    have Hb2 := Lib.hid (Hb1.out.trans (hB2.mono Hb1.out.size))
    go_wp2_with fail
    go_ret
    exact ⟨rfl, Hb2.out.alloc Hb2.out.size _⟩
  obtain ⟨C, hC⟩ : ∃ C, C = (build l).1 := ⟨_, rfl⟩
  obtain ⟨D, hD⟩ : ∃ D, D = dct l := ⟨_, rfl⟩
  have hR : build l = (C, 0) := by rw [hC, build_ok hl4 hm]
  have HvC := Lib.hid (show Valid C by rw [hC]; exact valid_build hl4 hm)
  have HCD := Lib.hid (show C.dict = D by rw [hC, hD, build_ok hl4 hm])
  have HDl := Lib.hid (show D.length ≤ l.length by rw [hD]; exact dct_len)
  have Hval := Lib.hid (show values C = l by rw [hC]; exact values_build hl4 hm)
  rw [hR] at C1
  have C1' := Lib.hid C1
  obtain ⟨N, hN⟩ : ∃ N, N = C.n := ⟨_, rfl⟩
  have HN := Lib.hid hN
  clear C1 hF hC hR hN hD hm hl4
  go_wp2_with fail
  refine C1'.out.mono ?_
  rintro e w2 ⟨A1, n1, c1, B1, m1, d1, he, hCl, hB2⟩
  replace he : e = .returned (.tuple #[.agg #[.int .i64 N, .slice A1 n1 c1, .slice B1 m1 d1], .int .i64 0]) := by rw [HN.out]; exact he
  subst he
  have hCl' : Cl w2 A1 n1 c1 B1 m1 d1 C := hCl
  have Hn1 := Lib.hid (show n1 = D.length by rw [hCl'.dict.len, HCD.out])
  have hn1 : n1 ≤ n := by rw [Hn1.out, Hn.out]; exact HDl.out
  have hm1 : m1 ≤ 1000000 := by
    obtain ⟨N', W', _, _, hW, hN4, hil, _⟩ := Bc.unE_inv HvC.out.un0
    have h4 := Nat.mul_le_mul hN4 hW
    rw [hCl'.ids.len]
    omega
  have hcap1 := hCl'.dict.cap
  have hmx1 := hCl'.dict.max
  unfold maxLen at hmx1
  have x2 := Cb.new w2 N A1 n1 c1 B1 m1 d1
  have hk2 := (Below.refl w2.heap.size w2).alloc (Nat.le_refl _) (.cells #[.int .i64 N, .slice A1 n1 c1, .slice B1 m1 d1] 27)
  have hb2 := Hb1.out.trans ((hB2.trans (hk2.mono hB2.size)).mono Hb1.out.size)
  have hCl2 := hCl'.below hk2
  obtain ⟨wa, hwa⟩ : ∃ wa, wa = w2.alloc (.cells #[.int .i64 N, .slice A1 n1 c1, .slice B1 m1 d1] 27) := ⟨_, rfl⟩
  obtain ⟨b, hbq⟩ : ∃ b, b = w2.heap.size := ⟨_, rfl⟩
  rw [← hwa] at x2 hb2 hCl2
  rw [← hbq] at x2
  have Hwa := Lib.hid hwa
  have Hbq := Lib.hid hbq
  have HCl2 := Lib.hid hCl2
  have Hb2 := Lib.hid hb2
  have HVa := Lib.hid (HV.out.below hb2)
  have HTa := Lib.hid (HT.out.below hb2)
  have hlb := x2.lt
  clear hB2 hk2 hb2 hCl hCl' hCl2 hwa hbq C1'
  go_wp2_with fail
  rw [← Hwa.out, ← Hbq.out]
  go_wp2_with fail
  go_loopw [9, 10] (fun u j wr => ∃ i M : Nat, j = .int .i64 i ∧ u = .int .i64 (M : Int) ∧ Hid (M = (rng C 0 (i : Int)).length) ∧ i ≤ n1 ∧ Below wa.heap.size wa wr) (fun _ j _ => n1 - (intOf j).toNat)
  case atStart => exact ⟨0, 0, rfl, rfl, Lib.hid (rng_zero C).symm, Nat.zero_le _, Below.refl _ _⟩
  case round =>
    obtain ⟨i, M, rfl, rfl, hM, hi, hB⟩ := hrel
    have yr := x2.below hlb hB
    have g0 := yr.c0
    have g1 := yr.c1
    have g2 := yr.c2
    by_cases hin : i < n1
    · have hiI : (i : Int) < n1 := by omega
      have hi0 : (0 : Int) ≤ (i : Int) := by omega
      have hiD : i < D.length := by rw [← Hn1.out]; exact hin
      have hM4 : M ≤ 4096 := by rw [hM.out]; exact rng_le _ _ _
      have Cr := range_any A1 n1 c1 B1 m1 d1 C (i : Int) ((i : Int) + 1) wr (HCl2.out.below hB) (by omega) hm1
      rw [← HN.out] at Cr
      have CR := Lib.hid Cr
      have HB := Lib.hid hB
      obtain ⟨X, hX⟩ : ∃ X, X = rng C (i : Int) ((i : Int) + 1) := ⟨_, rfl⟩
      have HX := Lib.hid hX
      rw [← hX] at CR
      have HM1 := Lib.hid (show M + X.length = (rng C 0 (((i + 1 : Nat)) : Int)).length by
        have := rng_next C i
        rw [← hM.out, ← hX] at this
        rw [← this]
        rfl)
      have hX4 : X.length ≤ 4096 := by rw [hX]; exact rng_le _ _ _
      obtain ⟨q, hq⟩ : ∃ q, q = X.length := ⟨_, rfl⟩
      rw [← hq] at hX4
      have Hq := Lib.hid hq
      clear Cr hB hX hM hiD hq
      go_wp2_with fail
      refine CR.out.mono ?_
      rintro e w5 ⟨A5, n5, c5, rfl, hS5, hB5⟩
      have y5 := yr.below yr.lt hB5
      have hk5 := (Below.refl w5.heap.size w5).alloc (Nat.le_refl _) (.cells #[.slice A5 n5 c5] 42)
      have x5 : Wd.Var (w5.alloc (.cells #[.slice A5 n5 c5] 42)) w5.heap.size 42 (.slice A5 n5 c5) := Wd.Var.new _ _ _
      have y6 := y5.below y5.lt hk5
      have Hb6 := Lib.hid (HB.out.trans ((hB5.trans (hk5.mono hB5.size)).mono HB.out.size))
      have hS6 := st_below hS5 hk5
      obtain ⟨w6, hw6⟩ : ∃ w6, w6 = w5.alloc (.cells #[.slice A5 n5 c5] 42) := ⟨_, rfl⟩
      obtain ⟨ps, hps⟩ : ∃ ps, ps = w5.heap.size := ⟨_, rfl⟩
      have c5w := (Wd.Var.new w5 42 (.slice A5 n5 c5)).cell
      rw [← hw6] at x5 y6 Hb6 hS6
      rw [← hps] at x5
      have Hw6 := Lib.hid hw6
      have Hps := Lib.hid hps
      have Cc := Bw.count_any A5 n5 c5 X w6 hS6
      rw [← Hq.out] at Cc
      have CC := Lib.hid Cc
      have HS6 := Lib.hid hS6
      clear g0 g1 g2 hB5 hk5 hS5 hS6 hw6 hps y5 Cc CR yr
      go_wp2_with fail
      rw [← Hw6.out]
      refine CC.out.mono ?_
      rintro e w7 ⟨rfl, hB7⟩
      have y7 := y6.below y6.lt hB7
      have x7 := var_below x5 x5.lt hB7
      have Hb7 := Lib.hid (Hb6.out.trans (hB7.mono Hb6.out.size))
      have c7 := x7.cell
      have Cl := Bw.list_of (st_below HS6.out hB7) (HTa.out.below Hb7.out) (-1)
      rw [hd_all] at Cl
      have CL := Lib.hid Cl
      clear c5w hB7 Cl y6 x5 CC
      rw [← Hps.out]
      go_wp2_with fail
      refine CL.out.mono ?_
      rintro e w8 ⟨A8, n8, c8, rfl, hL8, hB8⟩
      have y8 := y7.below y7.lt hB8
      have Hb8 := Lib.hid (Hb7.out.trans (hB8.mono Hb7.out.size))
      have Hn8 := Lib.hid hL8.len
      have hcap8 := hL8.cap
      have hmx8 := hL8.max
      unfold maxLen at hmx8
      have HL8 := Lib.hid hL8
      have hlb8 := y8.lt
      obtain ⟨wo, hwo⟩ : ∃ wo : World, wo = w8 := ⟨_, rfl⟩
      have Hwo := Lib.hid hwo
      clear hB8 hL8 c7 y7 x7 CL hwo
      go_wp2_with fail
      go_loopw [13] (fun j wr => ∃ r : Nat, j = .int .i64 r ∧ r ≤ n8 ∧ Below w8.heap.size w8 wr) (fun j _ => n8 - (intOf j).toNat)
      case atStart => exact ⟨0, rfl, Nat.zero_le _, Below.refl _ _⟩
      case round =>
        obtain ⟨j, rfl, hj, hB⟩ := hrel
        by_cases hjn : j < n8
        · have hjI : (j : Int) < n8 := by omega
          have hj0 : (0 : Int) ≤ (j : Int) := by omega
          have hjX : j < X.length := by rw [← Hn8.out]; exact hjn
          have hbw := Hb8.out.trans (hB.mono Hb8.out.size)
          obtain ⟨e8, f8, hA8, he8, hc8⟩ := (HL8.out.below hB).rd j hjX
          subst hA8
          obtain ⟨r, hr, hrl, hrv⟩ := rng_val (C := C) (i := i) (x := X.getD j 0) (by rw [← HX.out, List.getD_eq_getElem?_getD, List.getElem?_eq_getElem hjX]; exact List.getElem_mem hjX)
          rw [Hval.out] at hrl hrv
          rw [hr] at hc8
          have hrn : r < n := by rw [Hn.out]; exact hrl
          obtain ⟨⟨yk, yi, ys, yb⟩, hy⟩ : ∃ y, y = C.dict.getD i default := ⟨_, rfl⟩
          have hat : atv C (r : Int) = (⟨yk, yi, ys, yb⟩, true) := by
            unfold atv
            rw [if_pos ⟨by omega, by rw [← values_len, Hval.out]; omega⟩, Int.toNat_natCast, Hval.out, hrv, ← hy]
          obtain ⟨e, f, hA, heB, d0, d1', d2, d3, -⟩ := (HCl2.out.below hbw).dict.cells (j := i) (by rw [HCD.out, ← Hn1.out]; exact hin) rfl
          subst hA
          obtain ⟨e2, f2, hA2, he2, u0, u1, u2, u3, -⟩ := (HVa.out.below hbw).cells (j := r) hrl rfl
          subst hA2
          rw [hrv] at u0 u1 u2 u3
          rw [← hy] at d0 d1' d2 d3 u0 u1 u2 u3
          have hrI : (r : Int) < (n : Int) := by omega
          have hr0 : (0 : Int) ≤ (r : Int) := by omega
          have CA := Lib.hid fun w' (hb : Below wr.heap.size wr w') => ((by have := Cx.at_any (some ⟨e, f, none⟩) n1 c1 B1 m1 d1 C (r : Int) w' (HCl2.out.below (hbw.trans (hb.mono hbw.size))) (by omega) hm1 ⟨by omega, by omega⟩; rw [hat, ← HN.out] at this; exact this.mono fun e w' ⟨k', x', s', b', t', q1, q2, q3⟩ => (by
            simp only [Prod.mk.injEq, Va.Vl.mk.injEq] at q1
            obtain ⟨⟨rfl, rfl, rfl, rfl⟩, rfl⟩ := q1
            exact ⟨q2, q3⟩)) : Calls Tryd.prog 20 #[.agg #[.int .i64 N, .slice (some ⟨e, f, none⟩) n1 c1, .slice B1 m1 d1], .int .i64 (r : Int)] w' fun e w'' => e = .returned (.tuple #[.agg #[.int .i64 yk, .int .i64 yi, .string ys, .bool yb], .bool true]) ∧ Below w'.heap.size w' w'')
          have yw := y8.below hlb8 hB
          have g0 := yw.c0
          have g1 := yw.c1
          have g2 := yw.c2
          have hlw := yw.lt
          have HB9 := Lib.hid hB
          have hg : Tryd.prog.eqGuardType Tryd.prog.depth 48 = false := by kernel_rfl
          have heq := fun w => Vc.eqV yk yi ys yb yk yi ys yb w
          have ZZ := Lib.hid (show ∀ w', Below wr.heap.size wr w' → (w'.cell? ⟨b, 0, none⟩ = some (.int .i64 N) ∧ w'.cell? ⟨b, 1, none⟩ = some (.slice (some ⟨e, f, none⟩) n1 c1) ∧ w'.cell? ⟨b, 2, none⟩ = some (.slice B1 m1 d1)) ∧ w'.cell? ⟨e8, f8 + j, none⟩ = some (.int .i64 (r : Int)) from fun w' hb => ⟨⟨(hb.cell (p := ⟨b, 0, none⟩) hlw).trans g0, (hb.cell (p := ⟨b, 1, none⟩) hlw).trans g1, (hb.cell (p := ⟨b, 2, none⟩) hlw).trans g2⟩, (hb.cell (p := ⟨e8, f8 + j, none⟩) he8).trans hc8⟩)
          have YY := Lib.hid (show ∀ w', Below wr.heap.size wr w' → (w'.cell? ⟨e, f + i * 4, none⟩ = some (.int .i64 yk) ∧ w'.cell? ⟨e, f + i * 4 + 1, none⟩ = some (.int .i64 yi) ∧ w'.cell? ⟨e, f + i * 4 + 2, none⟩ = some (.string ys) ∧ w'.cell? ⟨e, f + i * 4 + 3, none⟩ = some (.bool yb)) ∧ w'.cell? ⟨e2, f2 + r * 4, none⟩ = some (.int .i64 yk) ∧ w'.cell? ⟨e2, f2 + r * 4 + 1, none⟩ = some (.int .i64 yi) ∧ w'.cell? ⟨e2, f2 + r * 4 + 2, none⟩ = some (.string ys) ∧ w'.cell? ⟨e2, f2 + r * 4 + 3, none⟩ = some (.bool yb) from fun w' hb => ⟨⟨(hb.cell (p := ⟨e, f + i * 4, none⟩) heB).trans d0, (hb.cell (p := ⟨e, f + i * 4 + 1, none⟩) heB).trans d1', (hb.cell (p := ⟨e, f + i * 4 + 2, none⟩) heB).trans d2, (hb.cell (p := ⟨e, f + i * 4 + 3, none⟩) heB).trans d3⟩, (hb.cell (p := ⟨e2, f2 + r * 4, none⟩) he2).trans u0, (hb.cell (p := ⟨e2, f2 + r * 4 + 1, none⟩) he2).trans u1, (hb.cell (p := ⟨e2, f2 + r * 4 + 2, none⟩) he2).trans u2, (hb.cell (p := ⟨e2, f2 + r * 4 + 3, none⟩) he2).trans u3⟩)
          clear hr hrl hrv hy hat d0 d1' d2 d3 u0 u1 u2 u3 hbw hjX hB yw
          go_upto_region 18 with fail
          go_cut [14, 15] (fun p t wz => ∃ g, p = .pointer (some ⟨g, 0, none⟩) ∧ t = .bool true ∧ Hid (Vc.Vb wz g yk yi ys yb) ∧ Below wr.heap.size wr wz)
          case first =>
            have hba := (Below.refl wr.heap.size wr).alloc (Nat.le_refl _) (.cells #[.int .i64 0, .int .i64 0, .string ⟨#[]⟩, .bool false] 48)
            have hbd : Below wr.heap.size wr (wr.alloc (.cells #[.int .i64 0, .int .i64 0, .string ⟨#[]⟩, .bool false] 48)).drew := hba.drew
            have hb0 := (Below.refl wr.heap.size wr).drew
            have vn : Vc.Vb (wr.alloc (.cells #[.int .i64 0, .int .i64 0, .string ⟨#[]⟩, .bool false] 48)).drew wr.heap.size 0 0 ⟨#[]⟩ false := Wd.Bx.new wr _ _
            have hvl : wr.heap.size < (wr.alloc (.cells #[.int .i64 0, .int .i64 0, .string ⟨#[]⟩, .bool false] 48)).drew.heap.size := Wd.Bx.lt vn
            have z10 := ZZ.out _ hbd
            have z11 := ZZ.out _ hb0
            go_region_held3 (fun w' => (w'.cell? ⟨b, 0, none⟩ = some (.int .i64 N) ∧ w'.cell? ⟨b, 1, none⟩ = some (.slice (some ⟨e, f, none⟩) n1 c1) ∧ w'.cell? ⟨b, 2, none⟩ = some (.slice B1 m1 d1)) ∧ w'.cell? ⟨e8, f8 + j, none⟩ = some (.int .i64 (r : Int))) (first | with_reducible exact z10 | with_reducible exact z11 | with_reducible exact ZZ.out _ (hb.alloc hb.size _) | exact ZZ.out _ ((((hb.setCell (p := ⟨wr.heap.size, 0, none⟩) (Nat.le_refl _) _).setCell (p := ⟨wr.heap.size, 1, none⟩) (Nat.le_refl _) _).setCell (p := ⟨wr.heap.size, 2, none⟩) (Nat.le_refl _) _).setCell (p := ⟨wr.heap.size, 3, none⟩) (Nat.le_refl _) _)) (first
              | (go_at_call 20; (with_reducible refine (CA.out _ hb0).mono ?_); rintro e wz ⟨rfl, hBz⟩; have hb := hb0.trans (hBz.mono hb0.size); have z10 := ZZ.out _ hb)
              | (go_at_call 20; (with_reducible refine (CA.out _ hbd).mono ?_); rintro e wz ⟨rfl, hBz⟩; have hb := hbd.trans (hBz.mono hbd.size); have z10 := ZZ.out _ hb; have vz := Wd.Bx.below vn hvl hBz; obtain ⟨⟨q0, q1, q2, q3⟩, p0, p1, p2, p3⟩ := Vc.four vz))
            all_goals (
              go_wp2_with fail
              go_meet
              first
                | exact ⟨_, rfl, rfl, Lib.hid (Vc.Vb.set vz), Vc.below_setV hb (Nat.le_refl _)⟩
                | exact ⟨_, rfl, rfl, Lib.hid (Wd.Bx.new _ _ _), hb.alloc hb.size _⟩)
          case rest =>
            obtain ⟨g, rfl, rfl, hv, hbc⟩ := hcut
            obtain ⟨⟨q0, q1, q2, q3⟩, -⟩ := Vc.four hv.out
            obtain ⟨⟨z0, z1, z2⟩, z3⟩ := ZZ.out _ hbc
            obtain ⟨⟨d0, d1', d2, d3⟩, u0, u1, u2, u3⟩ := YY.out _ hbc
            have Hbc := Lib.hid (HB9.out.trans (hbc.mono HB9.out.size))
            clear g0 g1 g2 hbc CA
            go_wp2_with fail
            go_quiet (fail)
            go_wp2_with fail
            go_roundw
            case rel => exact ⟨j + 1, by go_num, by omega, Wd.below_drewN Hbc.out _⟩
            case measure => simp [intOf]; omega
        · have hjI : ¬ (j : Int) < n8 := by omega
          have Hb9 := Lib.hid (Hb8.out.trans (hB.mono Hb8.out.size))
          have hqb : (M : Int) + (q : Int) ≤ 8192 := by omega
          clear hB
          go_wp2_with fail
          go_roundw
          case rel => exact ⟨i + 1, M + q, by go_num, by go_num, Lib.hid (by rw [Hq.out]; exact HM1.out), by omega, Hb9.out⟩
          case measure => simp [intOf]; omega
    · have hiI : ¬ (i : Int) < n1 := by omega
      have hin1 : i = n1 := by omega
      have hMn : M = n := by
        rw [hM.out, hin1, Hn1.out, ← HCD.out, rng_all, ← values_len, Hval.out, Hn.out]
      obtain ⟨La, hLa⟩ : ∃ La, La = (rng C 0 kk).length := ⟨_, rfl⟩
      obtain ⟨Lb, hLb⟩ : ∃ Lb, Lb = (rng C kk (n1 : Int)).length := ⟨_, rfl⟩
      have hcov : n ≤ La + Lb := by
        have := rng_cover C kk
        rw [← values_len, Hval.out, HCD.out, ← Hn1.out, ← Hn.out, ← hLa, ← hLb] at this
        exact this
      have ha4 : La ≤ 4096 := by rw [hLa]; exact rng_le _ _ _
      have hb4 : Lb ≤ 4096 := by rw [hLb]; exact rng_le _ _ _
      have hge : (n : Int) ≤ (La : Int) + (Lb : Int) := add_le n La Lb hcov
      have hged : decide ((n : Int) ≤ (La : Int) + (Lb : Int)) = true := decide_eq_true hge
      have hwr : wrap64 ((La : Int) + (Lb : Int)) = (La : Int) + (Lb : Int) := addw_in La Lb ha4 hb4
      have Hdec := Lib.hid (dec_in n La Lb ha4 hb4 hcov)
      have R0 := Lib.hid fun w' (hb : Below wr.heap.size wr w') => (by have := range_any A1 n1 c1 B1 m1 d1 C 0 kk w' (HCl2.out.below (hB.trans (hb.mono hB.size))) (by omega) hm1; rw [← HN.out] at this; exact this : Calls Tryd.prog 17 #[.agg #[.int .i64 N, .slice A1 n1 c1, .slice B1 m1 d1], .int .i64 0, .int .i64 kk] w' (Gv Bw.St w' (rng C 0 kk)))
      have R1 := Lib.hid fun w' (hb : Below wr.heap.size wr w') => (by have := range_any A1 n1 c1 B1 m1 d1 C kk (n1 : Int) w' (HCl2.out.below (hB.trans (hb.mono hB.size))) (by omega) hm1; rw [← HN.out] at this; exact this : Calls Tryd.prog 17 #[.agg #[.int .i64 N, .slice A1 n1 c1, .slice B1 m1 d1], .int .i64 kk, .int .i64 (n1 : Int)] w' (Gv Bw.St w' (rng C kk (n1 : Int))))
      have K0 := Lib.hid fun w' A' n' c' (hS : Bw.St w' A' n' c' (rng C 0 kk)) => (by have := Bw.count_any A' n' c' _ w' hS; rw [← hLa] at this; exact this : Calls Tryd.prog 18 #[.agg #[.slice A' n' c']] w' fun e w'' => e = .returned (.int .i64 (La : Int)) ∧ Below w'.heap.size w' w'')
      have K1 := Lib.hid fun w' A' n' c' (hS : Bw.St w' A' n' c' (rng C kk (n1 : Int))) => (by have := Bw.count_any A' n' c' _ w' hS; rw [← hLb] at this; exact this : Calls Tryd.prog 18 #[.agg #[.slice A' n' c']] w' fun e w'' => e = .returned (.int .i64 (Lb : Int)) ∧ Below w'.heap.size w' w'')
      have hlw := yr.lt
      have ZZ := Lib.hid (show ∀ w', Below wr.heap.size wr w' → w'.cell? ⟨b, 0, none⟩ = some (.int .i64 N) ∧ w'.cell? ⟨b, 1, none⟩ = some (.slice A1 n1 c1) ∧ w'.cell? ⟨b, 2, none⟩ = some (.slice B1 m1 d1) from fun w' hb => ⟨(hb.cell (p := ⟨b, 0, none⟩) hlw).trans g0, (hb.cell (p := ⟨b, 1, none⟩) hlw).trans g1, (hb.cell (p := ⟨b, 2, none⟩) hlw).trans g2⟩)
      have Hbf := Lib.hid (Hb2.out.trans (hB.mono Hb2.out.size))
      have hMM : ((M : Int) == (n : Int)) = true := by rw [hMn]; exact beq_self_eq_true _
      clear hB hM hLa hLb hcov yr hin1 hMn ha4 hb4
      go_wp2_with fail
      have hb := (Below.refl wr.heap.size wr).drew
      have z10 := ZZ.out _ hb
      go_region_held3 (fun w' => w'.cell? ⟨b, 0, none⟩ = some (.int .i64 N) ∧ w'.cell? ⟨b, 1, none⟩ = some (.slice A1 n1 c1) ∧ w'.cell? ⟨b, 2, none⟩ = some (.slice B1 m1 d1)) (with_reducible first | exact z10) (first
        | (go_at_call 17; (with_reducible refine (R0.out _ hb).mono ?_); rintro e wz ⟨Aa, na, ca, rfl, hSa, hBz⟩; (first | have hSb := st_below hSb hBz | skip); have hb := hb.trans (hBz.mono hb.size); have z10 := ZZ.out _ hb)
        | (go_at_call 17; (with_reducible refine (R1.out _ hb).mono ?_); rintro e wz ⟨Ab, nb, cb, rfl, hSb, hBz⟩; (first | have hSa := st_below hSa hBz | skip); have hb := hb.trans (hBz.mono hb.size); have z10 := ZZ.out _ hb)
        | (go_at_call 18; (with_reducible refine (K0.out _ Aa na ca hSa).mono ?_); rintro e wz ⟨rfl, hBz⟩; (first | have hSb := st_below hSb hBz | skip); have hb := hb.trans (hBz.mono hb.size); have z10 := ZZ.out _ hb)
        | (go_at_call 18; (with_reducible refine (K1.out _ Ab nb cb hSb).mono ?_); rintro e wz ⟨rfl, hBz⟩; (first | have hSa := st_below hSa hBz | skip); have hb := hb.trans (hBz.mono hb.size); have z10 := ZZ.out _ hb))
      all_goals (
        go_wp2_with fail
        go_ret
        exact ⟨by first | rfl | (show Ending.returned (Value.bool (decide ((n : Int) ≤ IntKind.i64.wrap ((La : Int) + (Lb : Int))))) = .returned (.bool true); rw [Hdec.out]), Hbf.out.trans (hb.mono Hbf.out.size)⟩)
theorem columnParts_says (A : Option Addr) (n c : Nat) (l : List Vl) (kk : Int) (w : World) (hV : Wd.Vs w A n c l) (_h0 : -9223372036854775808 ≤ kk) (_h1 : kk ≤ 9223372036854775807) (hL : laidMetH Tryd.prog Bw.ls w) :
    Calls Tryd.prog 5 #[.slice A n c, .int .i64 kk] w fun e w' => e = .returned (.bool true) ∧ Below w.heap.size w w' :=
  columnParts_walk A n c l kk w hV (Bw.tab_of_laid hL)
end Lw
end Go.Proofs.YtnhgijlhnamolaaDoor
