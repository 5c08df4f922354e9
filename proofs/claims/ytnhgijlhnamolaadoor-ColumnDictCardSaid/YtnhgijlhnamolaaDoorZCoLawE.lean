/- The walk of the statement ColumnDict of layer 10. -/
import Derived.Test.YtnhgijlhnamolaaDoorPk29
import Derived.Test.YtnhgijlhnamolaaDoorPk36
import Derived.Test.YtnhgijlhnamolaaDoorPk09
namespace Go.Proofs.YtnhgijlhnamolaaDoor
set_option maxRecDepth 20000
open Go.RowKit
namespace Co
open Va (Vl May ord null)
open Dc
/-- Whether a value is among the first k. -/
def InT (bb : Bool) (y : Vl) (l : List Vl) (k : Nat) : Prop := bb = true ↔ y ∈ l.take k
theorem up_at {D : List Vl} (h : Up D) {i j : Nat} (hij : i < j) (hj : j < D.length) : ord (D.getD i default) (D.getD j default) < 0 := by
  have h1 := List.pairwise_iff_getElem.1 h i j (by omega) hj hij
  rw [List.getD_eq_getElem?_getD, List.getElem?_eq_getElem (show i < D.length by omega), Option.getD_some, List.getD_eq_getElem?_getD, List.getElem?_eq_getElem hj, Option.getD_some]
  exact h1
theorem ends_in {D : List Vl} (h : Up D) {x : Vl} (hx : x ∈ D) (hk : x.kind ≠ 0) : fst1 D < D.length ∧ 0 ≤ ord x (D.getD (fst1 D) default) ∧ ord x (D.getD (D.length - 1) default) ≤ 0 := by
  obtain ⟨p, hp, rfl⟩ := List.getElem_of_mem hx
  have e : D[p] = D.getD p default := by simp [List.getD, hp]
  rw [e] at hk ⊢
  have hf : fst1 D ≤ p := by
    unfold fst1
    split
    · rename_i q
      rcases Nat.eq_zero_or_pos p with z | z
      · subst z; exact absurd q.1 hk
      · exact z
    · exact Nat.zero_le _
  refine ⟨by omega, ?_, ?_⟩
  · rcases Nat.lt_or_eq_of_le hf with q | q
    · have h1 := up_at h q hp
      have h2 := Va.ord_neg (D.getD p default) (D.getD (fst1 D) default)
      omega
    · rw [← q, Va.ord_self]
      omega
  · rcases Nat.lt_or_eq_of_le (show p ≤ D.length - 1 by omega) with q | q
    · have h1 := up_at h q (by omega)
      omega
    · rw [q, Va.ord_self]
      omega
end Co
namespace Lw
open Va (Vl May ord null)
open Sc (tr tr_yes tr_no tr_iff)
open Co Cx
set_option maxRecDepth 100000 in
set_option maxHeartbeats 16000000 in
theorem columnDict_walk (A : Option Addr) (n c : Nat) (l : List Vl) (w : World) (hV : Wd.Vs w A n c l) (hT : Bi.Tab w) :
    Calls Tryd.prog 6 #[.slice A n c] w fun e w' => e = .returned (.bool true) ∧ Below w.heap.size w w' := by
  have HV := Lib.hid hV
  have HT := Lib.hid hT
  have Hn := Lib.hid hV.len
  have hcap := hV.cap
  have hmx := hV.max
  unfold maxLen at hmx
  obtain ⟨f, hf⟩ : ∃ f, f = tr (FewC l) := ⟨_, rfl⟩
  have Hf := Lib.hid hf
  clear hf hV hT
  go_enter Tryd.func6, Tryd.ntmps6
  go_wp2_with fail
  refine (Cx.awake_any w HT.out).mono ?_
  rintro e w1 ⟨rfl, hb1⟩
  have Cf := few_any A n c l w1 (HV.out.below hb1)
  rw [← Hf.out] at Cf
  have CF := Lib.hid Cf
  clear Cf
  go_wp2_with fail
  refine CF.out.mono ?_
  rintro e w1' ⟨rfl, hq⟩
  have hq' := hq.symm
  clear hq
  subst hq'
  clear CF
  cases f with
  | false =>
    go_wp2_with fail
    go_ret
    exact ⟨rfl, hb1⟩
  | true =>
  have hF := tr_iff.1 Hf.out.symm
  have hs := few_size hF
  have Hs := Lib.hid hs
  have hl4 : l.length ≤ 4096 := by have := hF.1; omega
  have hn200 : n ≤ 200 := by rw [Hn.out]; exact hF.1
  have C1 := cbuild_any A n c l w1 (HV.out.below hb1) hs
  have Hb1 := Lib.hid hb1
  clear hb1 hs
  by_cases hm : ∀ v ∈ l, May v
  case neg =>
    rw [build_bad hl4 hm] at C1
    have C1' := Lib.hid C1
    clear C1 hm hF
    go_wp2_with fail
    refine C1'.out.mono ?_
    rintro e w2 ⟨A1, n1, c1, B1, m1, d1, he, hCl, hB2⟩
    replace he : e = .returned (.tuple #[.agg #[.int .i64 0, .slice A1 n1 c1, .slice B1 m1 d1], .int .i64 1]) := he
    subst he
    have Hb2 := Lib.hid (Hb1.out.trans (hB2.mono Hb1.out.size))
    go_wp2_with fail
    go_ret
    exact ⟨rfl, Hb2.out.alloc Hb2.out.size _⟩
  obtain ⟨C, hC⟩ : ∃ C, C = (build l).1 := ⟨_, rfl⟩
  obtain ⟨D, hD⟩ : ∃ D, D = dct l := ⟨_, rfl⟩
  have hR : build l = (C, 0) := by rw [hC, build_ok hl4 hm]
  have HvC := Lib.hid (show Valid C by rw [hC]; exact valid_build hl4 hm)
  have HCD := Lib.hid (show C.dict = D by rw [hC, hD, build_ok hl4 hm])
  have HDl := Lib.hid (show D.length ≤ l.length by rw [hD]; exact dct_len)
  have HDm := Lib.hid (show ∀ x, x ∈ D ↔ x ∈ l from fun x => by rw [hD]; exact dct_mem hl4 hm x)
  have HDu := Lib.hid (show Dc.Up D by rw [hD]; exact (dct_ris (l := l)).2)
  rw [hR] at C1
  have C1' := Lib.hid C1
  obtain ⟨N, hN⟩ : ∃ N, N = C.n := ⟨_, rfl⟩
  have HN := Lib.hid hN
  clear C1 hF hC hR hN hD hm hl4
  go_wp2_with fail
  refine C1'.out.mono ?_
  rintro e w2 ⟨A1, n1, c1, B1, m1, d1, he, hCl, hB2⟩
  replace he : e = .returned (.tuple #[.agg #[.int .i64 N, .slice A1 n1 c1, .slice B1 m1 d1], .int .i64 0]) := by rw [HN.out]; exact he
  subst he
  have hCl' : Cl w2 A1 n1 c1 B1 m1 d1 C := hCl
  have Hn1 := Lib.hid (show n1 = D.length by rw [hCl'.dict.len, HCD.out])
  have hn1 : n1 ≤ n := by rw [Hn1.out, Hn.out]; exact HDl.out
  have hm1 : m1 ≤ 1000000 := by
    obtain ⟨N', W', _, _, hW, hN4, hil, _⟩ := Bc.unE_inv HvC.out.un0
    have h4 := Nat.mul_le_mul hN4 hW
    rw [hCl'.ids.len]
    omega
  have hcap1 := hCl'.dict.cap
  have hmx1 := hCl'.dict.max
  unfold maxLen at hmx1
  have x2 := Cb.new w2 N A1 n1 c1 B1 m1 d1
  have hk2 := (Below.refl w2.heap.size w2).alloc (Nat.le_refl _) (.cells #[.int .i64 N, .slice A1 n1 c1, .slice B1 m1 d1] 27)
  have hb2 := Hb1.out.trans ((hB2.trans (hk2.mono hB2.size)).mono Hb1.out.size)
  have hCl2 := hCl'.below hk2
  obtain ⟨wa, hwa⟩ : ∃ wa, wa = w2.alloc (.cells #[.int .i64 N, .slice A1 n1 c1, .slice B1 m1 d1] 27) := ⟨_, rfl⟩
  obtain ⟨b, hbq⟩ : ∃ b, b = w2.heap.size := ⟨_, rfl⟩
  rw [← hwa] at x2 hb2 hCl2
  rw [← hbq] at x2
  have Hwa := Lib.hid hwa
  have Hbq := Lib.hid hbq
  have HCl2 := Lib.hid hCl2
  have Hb2 := Lib.hid hb2
  have HVa := Lib.hid (HV.out.below hb2)
  have hlb := x2.lt
  clear hB2 hk2 hb2 hCl hCl' hCl2 hwa hbq C1'
  go_wp2_with fail
  rw [← Hwa.out, ← Hbq.out]
  go_wp2_with fail
  go_loopw [7] (fun j wr => ∃ i : Nat, j = .int .i64 i ∧ i ≤ n1 ∧ Below wa.heap.size wa wr) (fun j _ => n1 - (intOf j).toNat)
  case atStart => exact ⟨0, rfl, Nat.zero_le _, Below.refl _ _⟩
  case round =>
    obtain ⟨i, rfl, hi, hB⟩ := hrel
    have yr := x2.below hlb hB
    have g0 := yr.c0
    have g1 := yr.c1
    have g2 := yr.c2
    by_cases hin : i < n1
    · have hiI : (i : Int) < n1 := by omega
      have hi0 : (0 : Int) ≤ (i : Int) := by omega
      have hiD : i < D.length := by rw [← Hn1.out]; exact hin
      obtain ⟨e, f, hA, heB, d0, d1', d2, d3, -⟩ := HCl2.out.dict.cells (j := i) (by rw [HCD.out]; exact hiD) rfl
      subst hA
      obtain ⟨⟨yk, yi, ys, yb⟩, hy⟩ : ∃ y, y = C.dict.getD i default := ⟨_, rfl⟩
      rw [← hy] at d0 d1' d2 d3
      rw [HCD.out] at hy
      have Hy := Lib.hid hy
      have hyl : (⟨yk, yi, ys, yb⟩ : Vl) ∈ l := (HDm.out _).1 (by rw [hy, List.getD_eq_getElem?_getD, List.getElem?_eq_getElem hiD]; exact List.getElem_mem hiD)
      have Hyl := Lib.hid hyl
      have HB := Lib.hid hB
      have Z := Lib.hid fun w' (hb : Below wa.heap.size wa w') => (⟨(hb.cell (p := ⟨e, f + i * 4, none⟩) heB).trans d0, (hb.cell (p := ⟨e, f + i * 4 + 1, none⟩) heB).trans d1', (hb.cell (p := ⟨e, f + i * 4 + 2, none⟩) heB).trans d2, (hb.cell (p := ⟨e, f + i * 4 + 3, none⟩) heB).trans d3⟩ : _ ∧ _ ∧ _ ∧ _)
      obtain ⟨wo, hwo⟩ : ∃ wo : World, wo = wr := ⟨_, rfl⟩
      have Hwo := Lib.hid hwo
      clear hy hyl d0 d1' d2 d3 hB hwo
      go_wp2_with fail
      go_loopw [8, 9] (fun u j wr => ∃ (k : Nat) (bb : Bool), j = .int .i64 k ∧ k ≤ n ∧ u = .bool bb ∧ Hid (InT bb ⟨yk, yi, ys, yb⟩ l k) ∧ Below wa.heap.size wa wr) (fun _ j _ => n - (intOf j).toNat)
      case atStart => exact ⟨0, false, rfl, Nat.zero_le _, rfl, Lib.hid (by unfold InT; simp), HB.out⟩
      case round =>
        obtain ⟨k, bb, rfl, hk, rfl, hbb, hB⟩ := hrel
        have yq := x2.below hlb hB
        have g0 := yq.c0
        have g1 := yq.c1
        have g2 := yq.c2
        obtain ⟨z0, z1, z2, z3⟩ := Z.out _ hB
        by_cases hkn : k < n
        · have hkI : (k : Int) < n := by omega
          have hk0 : (0 : Int) ≤ (k : Int) := by omega
          have hkl : k < l.length := by rw [← Hn.out]; exact hkn
          have htk : l.take (k + 1) = l.take k ++ [l.getD k default] := by
            rw [List.take_succ_eq_append_getElem hkl]
            simp [List.getD, hkl]
          have HB2 := Lib.hid hB
          cases bb with
          | true =>
            have hnx := Lib.hid (show InT true ⟨yk, yi, ys, yb⟩ l (k + 1) from ⟨fun _ => by rw [htk]; exact List.mem_append_left _ (hbb.out.1 rfl), fun _ => rfl⟩)
            clear hbb hB htk hkl
            go_wp2_with fail
            go_quiet (fail)
            go_wp2_with fail
            go_roundw
            case rel => exact ⟨k + 1, true, by go_num, by omega, rfl, hnx, Wd.below_drewN HB2.out _⟩
            case measure => simp [intOf]; omega
          | false =>
            obtain ⟨e2, f2, hA2, he2, u0, u1, u2, u3, -⟩ := (HVa.out.below hB).cells (j := k) hkl rfl
            subst hA2
            obtain ⟨⟨xk, xi, xs, xb⟩, hx⟩ : ∃ x, x = l.getD k default := ⟨_, rfl⟩
            rw [← hx] at u0 u1 u2 u3 htk
            have hg : Tryd.prog.eqGuardType Tryd.prog.depth 48 = false := by kernel_rfl
            obtain ⟨bq, hbq⟩ : ∃ bq, bq = decide (xk = yk ∧ xi = yi ∧ xs = ys ∧ xb = yb) := ⟨_, rfl⟩
            have heq : ∀ w, (Op.equalIn 10000 48 (.agg #[.int .i64 xk, .int .i64 xi, .string xs, .bool xb]) (.agg #[.int .i64 yk, .int .i64 yi, .string ys, .bool yb])).run Tryd.prog w = .ok bq w := fun w => by rw [hbq]; exact Vc.eqV xk xi xs xb yk yi ys yb w
            have hnx := Lib.hid (show InT bq ⟨yk, yi, ys, yb⟩ l (k + 1) from by
              unfold InT
              rw [htk, List.mem_append, List.mem_singleton, hbq, decide_eq_true_iff]
              constructor
              · rintro ⟨rfl, rfl, rfl, rfl⟩
                exact .inr rfl
              · rintro (q | q)
                · have := hbb.out.2 q; cases this
                · cases q; exact ⟨rfl, rfl, rfl, rfl⟩)
            clear hbb hB htk hkl hx hbq
            cases bq
            all_goals (
              go_wp2_with fail
              go_quiet (fail)
              go_wp2_with fail
              go_roundw
              case rel => exact ⟨k + 1, _, by go_num, by omega, rfl, hnx, Wd.below_drewN HB2.out _⟩
              case measure => simp [intOf]; omega)
        · have hkI : ¬ (k : Int) < n := by omega
          have hbt : bb = true := by
            have := hbb.out
            unfold InT at this
            rw [this, List.take_of_length_le (by rw [← Hn.out]; omega)]
            exact Hyl.out
          subst hbt
          have HB2 := Lib.hid hB
          clear hbb
          by_cases hi00 : i = 0
          · subst hi00
            clear hB
            go_wp2_with fail
            go_quiet (fail)
            go_wp2_with fail
            go_roundw
            case rel => exact ⟨1, by go_num, by omega, Wd.below_drewN HB2.out _⟩
            case measure => simp [intOf]; omega
          · have hip : (0 : Int) < (i : Int) := by omega
            have hipn : 0 < i := by omega
            have hipd : decide (0 < i) = true := decide_eq_true hipn
            obtain ⟨e3, f3, hA3, he3, u0, u1, u2, u3, -⟩ := (HCl2.out.below hB).dict.cells (j := i - 1) (by rw [HCD.out, ← Hn1.out]; omega) rfl
            cases hA3
            obtain ⟨⟨xk, xi, xs, xb⟩, hx⟩ : ∃ x, x = C.dict.getD (i - 1) default := ⟨_, rfl⟩
            rw [← hx] at u0 u1 u2 u3
            rw [HCD.out] at hx
            have hxl : (⟨xk, xi, xs, xb⟩ : Vl) ∈ l := (HDm.out _).1 (by rw [hx, List.getD_eq_getElem?_getD, List.getElem?_eq_getElem (show i - 1 < D.length by rw [← Hn1.out]; omega)]; exact List.getElem_mem _)
            have CO := Lib.hid fun w' => Vc.refOrder_any xk xi xs xb yk yi ys yb w' (Hs.out _ hxl)
            have ho : ord ⟨xk, xi, xs, xb⟩ ⟨yk, yi, ys, yb⟩ < 0 := by
              rw [hx, Hy.out]
              exact up_at HDu.out (by omega) (by rw [← Hn1.out]; exact hin)
            obtain ⟨o, hoq⟩ : ∃ o, o = ord ⟨xk, xi, xs, xb⟩ ⟨yk, yi, ys, yb⟩ := ⟨_, rfl⟩
            rw [← hoq] at CO ho
            have hon : ¬ (0 : Int) ≤ o := by omega
            have hw0 : IntKind.i64.wrap ((i : Int) - 1) = (i : Int) - 1 := by rw [IntKind.wrap_i64]; omega
            have hw1 : wrap64 ((i : Int) - 1) = (i : Int) - 1 := IntWalk.wrap64_in _ ⟨by omega, by omega⟩
            have hw2 : (0 : Int) ≤ (i : Int) - 1 := by omega
            have hw3 : (i : Int) - 1 < (n1 : Int) := by omega
            have hw4 : ((i : Int) - 1).toNat = i - 1 := by omega
            have hw5 : (1 : Int) ≤ (i : Int) := by omega
            have hlbr := yq.lt
            have ZZ := Lib.hid (show ∀ w', Below wr.heap.size wr w' → (w'.cell? ⟨b, 1, none⟩ = some (.slice (some ⟨e, f, none⟩) n1 c1) ∧ (w'.cell? ⟨e, f + (i - 1) * 4, none⟩ = some (.int .i64 xk) ∧ w'.cell? ⟨e, f + (i - 1) * 4 + 1, none⟩ = some (.int .i64 xi) ∧ w'.cell? ⟨e, f + (i - 1) * 4 + 2, none⟩ = some (.string xs) ∧ w'.cell? ⟨e, f + (i - 1) * 4 + 3, none⟩ = some (.bool xb)) ∧ w'.cell? ⟨e, f + i * 4, none⟩ = some (.int .i64 yk) ∧ w'.cell? ⟨e, f + i * 4 + 1, none⟩ = some (.int .i64 yi) ∧ w'.cell? ⟨e, f + i * 4 + 2, none⟩ = some (.string ys) ∧ w'.cell? ⟨e, f + i * 4 + 3, none⟩ = some (.bool yb)) from fun w' hb => ⟨(hb.cell (p := ⟨b, 1, none⟩) hlbr).trans g1, ⟨(hb.cell (p := ⟨e, f + (i - 1) * 4, none⟩) he3).trans u0, (hb.cell (p := ⟨e, f + (i - 1) * 4 + 1, none⟩) he3).trans u1, (hb.cell (p := ⟨e, f + (i - 1) * 4 + 2, none⟩) he3).trans u2, (hb.cell (p := ⟨e, f + (i - 1) * 4 + 3, none⟩) he3).trans u3⟩, (hb.cell (p := ⟨e, f + i * 4, none⟩) he3).trans z0, (hb.cell (p := ⟨e, f + i * 4 + 1, none⟩) he3).trans z1, (hb.cell (p := ⟨e, f + i * 4 + 2, none⟩) he3).trans z2, (hb.cell (p := ⟨e, f + i * 4 + 3, none⟩) he3).trans z3⟩)
            clear hx hxl hoq hB ho
            go_wp2_with fail
            have hb := (Below.refl wr.heap.size wr).drew
            have z10 := ZZ.out _ hb
            go_region_held3 (fun w' => (w'.cell? ⟨b, 1, none⟩ = some (.slice (some ⟨e, f, none⟩) n1 c1) ∧ (w'.cell? ⟨e, f + (i - 1) * 4, none⟩ = some (.int .i64 xk) ∧ w'.cell? ⟨e, f + (i - 1) * 4 + 1, none⟩ = some (.int .i64 xi) ∧ w'.cell? ⟨e, f + (i - 1) * 4 + 2, none⟩ = some (.string xs) ∧ w'.cell? ⟨e, f + (i - 1) * 4 + 3, none⟩ = some (.bool xb)) ∧ w'.cell? ⟨e, f + i * 4, none⟩ = some (.int .i64 yk) ∧ w'.cell? ⟨e, f + i * 4 + 1, none⟩ = some (.int .i64 yi) ∧ w'.cell? ⟨e, f + i * 4 + 2, none⟩ = some (.string ys) ∧ w'.cell? ⟨e, f + i * 4 + 3, none⟩ = some (.bool yb))) (with_reducible first | exact z10) (first | (go_at_call 21; (with_reducible refine (CO.out _).mono ?_); rintro e wz ⟨rfl, hBz⟩; have hb := hb.trans (hBz.mono hb.size); have z10 := ZZ.out _ hb))
            all_goals (
              go_wp2_with fail
              go_roundw
              case rel => exact ⟨i + 1, by go_num, by omega, HB2.out.trans (hb.mono HB2.out.size)⟩
              case measure => simp [intOf]; omega)
    · have hiI : ¬ (i : Int) < n1 := by omega
      have Hbr := Lib.hid (Hb2.out.trans (hB.mono Hb2.out.size))
      have HClr := Lib.hid (HCl2.out.below hB)
      have HVr := Lib.hid (HVa.out.below hB)
      have Ce := Cx.ends_any A1 n1 c1 B1 m1 d1 C wr HClr.out (by omega) hm1
      rw [← HN.out] at Ce
      have CE := Lib.hid Ce
      have hlbr := yr.lt
      clear hB Ce
      go_wp2_with fail
      refine CE.out.mono ?_
      rintro e w5 ⟨k1, x1, s1, b1, k2, x2', s2, b2, t2, hE, rfl, hB5⟩
      have y5 := yr.below hlbr hB5
      have Hb5 := Lib.hid (Hbr.out.trans (hB5.mono Hbr.out.size))
      have HV5 := Lib.hid (HVr.out.below hB5)
      have HE := Lib.hid hE
      have hk1 := (Below.refl w5.heap.size w5).alloc (Nat.le_refl _) (.cells #[.int .i64 k1, .int .i64 x1, .string s1, .bool b1] 48)
      have hk2 := hk1.alloc hk1.size (.cells #[.int .i64 k2, .int .i64 x2', .string s2, .bool b2] 48)
      have va : Vc.Vb ((w5.alloc (.cells #[.int .i64 k1, .int .i64 x1, .string s1, .bool b1] 48)).alloc (.cells #[.int .i64 k2, .int .i64 x2', .string s2, .bool b2] 48)) w5.heap.size k1 x1 s1 b1 := (Wd.Bx.new w5 _ _).alloc _
      have vz : Vc.Vb ((w5.alloc (.cells #[.int .i64 k1, .int .i64 x1, .string s1, .bool b1] 48)).alloc (.cells #[.int .i64 k2, .int .i64 x2', .string s2, .bool b2] 48)) (w5.heap.size + 1) k2 x2' s2 b2 := by
        have := Wd.Bx.new (w5.alloc (.cells #[.int .i64 k1, .int .i64 x1, .string s1, .bool b1] 48)) 48 #[.int .i64 k2, .int .i64 x2', .string s2, .bool b2]
        rwa [World.size_alloc] at this
      obtain ⟨wk, hwk⟩ : ∃ wk, wk = (w5.alloc (.cells #[.int .i64 k1, .int .i64 x1, .string s1, .bool b1] 48)).alloc (.cells #[.int .i64 k2, .int .i64 x2', .string s2, .bool b2] 48) := ⟨_, rfl⟩
      obtain ⟨pa, hpa⟩ : ∃ pa, pa = w5.heap.size := ⟨_, rfl⟩
      rw [← hwk] at hk2 va vz
      have y6 := y5.below y5.lt hk2
      rw [← hpa] at va vz
      have Hwk := Lib.hid hwk
      have Hpa := Lib.hid hpa
      have HVk := Lib.hid (HV5.out.below hk2)
      have Hbk := Lib.hid (Hb5.out.trans (hk2.mono Hb5.out.size))
      clear hk1 hk2 hwk hpa hE g0 g1 g2 hB5 CE HV5 HClr HVr yr y5
      go_wp2_with fail
      rw [← Hwk.out, ← Hpa.out]
      go_wp2_with fail
      go_loopw [13] (fun j wr => ∃ k : Nat, j = .int .i64 k ∧ k ≤ n ∧ Below wk.heap.size wk wr) (fun j _ => n - (intOf j).toNat)
      case atStart => exact ⟨0, rfl, Nat.zero_le _, Below.refl _ _⟩
      case round =>
        obtain ⟨k, rfl, hk, hB⟩ := hrel
        by_cases hkn : k < n
        · have hkI : (k : Int) < n := by omega
          have hk0 : (0 : Int) ≤ (k : Int) := by omega
          have hkl : k < l.length := by rw [← Hn.out]; exact hkn
          obtain ⟨e2, f2, hA2, he2, u0, u1, u2, u3, -⟩ := (HVk.out.below hB).cells (j := k) hkl rfl
          subst hA2
          obtain ⟨⟨xk, xi, xs, xb⟩, hx⟩ : ∃ x, x = l.getD k default := ⟨_, rfl⟩
          rw [← hx] at u0 u1 u2 u3
          have hxl : (⟨xk, xi, xs, xb⟩ : Vl) ∈ l := by rw [hx, List.getD_eq_getElem?_getD, List.getElem?_eq_getElem hkl]; exact List.getElem_mem hkl
          have HB := Lib.hid hB
          by_cases hk00 : xk = 0
          · rw [hk00] at u0
            clear hx hxl hB hkl
            go_wp2_with fail
            go_quiet (fail)
            go_wp2_with fail
            go_roundw
            case rel => exact ⟨k + 1, by go_num, by omega, Wd.below_drewN HB.out _⟩
            case measure => simp [intOf]; omega
          · have hkb : (xk != 0) = true := by simpa using hk00
            have hin := ends_in HDu.out ((HDm.out _).2 hxl) hk00
            have hEq := HE.out
            unfold ends at hEq
            rw [HCD.out, if_pos (tr_yes ⟨HvC.out, hin.1⟩)] at hEq
            simp only [Prod.mk.injEq] at hEq
            obtain ⟨e1, e2', e3⟩ := hEq
            obtain ⟨-, ha1, ha2⟩ := hin
            rw [← e1] at ha1
            rw [← e2'] at ha2
            have CO1 := Lib.hid fun w' => Vc.refOrder_any xk xi xs xb k1 x1 s1 b1 w' (Hs.out _ hxl)
            have CO2 := Lib.hid fun w' => Vc.refOrder_any xk xi xs xb k2 x2' s2 b2 w' (Hs.out _ hxl)
            obtain ⟨o1, ho1⟩ : ∃ o, o = ord ⟨xk, xi, xs, xb⟩ ⟨k1, x1, s1, b1⟩ := ⟨_, rfl⟩
            obtain ⟨o2, ho2⟩ : ∃ o, o = ord ⟨xk, xi, xs, xb⟩ ⟨k2, x2', s2, b2⟩ := ⟨_, rfl⟩
            rw [← ho1] at CO1 ha1
            rw [← ho2] at CO2 ha2
            have hn1' : ¬ o1 < (0 : Int) := by omega
            have hn2' : ¬ (0 : Int) < o2 := by omega
            have hd1' : decide (o1 < (0 : Int)) = false := decide_eq_false hn1'
            have hd2' : decide ((0 : Int) < o2) = false := decide_eq_false hn2'
            subst e3
            obtain ⟨⟨a0, a1, a2, a3⟩, -⟩ := Vc.four (Wd.Bx.below va (Wd.Bx.lt va) hB)
            obtain ⟨⟨q0, q1, q2, q3⟩, -⟩ := Vc.four (Wd.Bx.below vz (Wd.Bx.lt vz) hB)
            have hla := Nat.lt_of_lt_of_le (Wd.Bx.lt va) hB.size
            have hlz := Nat.lt_of_lt_of_le (Wd.Bx.lt vz) hB.size
            have ZZ := Lib.hid (show ∀ w', Below wr.heap.size wr w' → (w'.cell? ⟨e2, f2 + k * 4, none⟩ = some (.int .i64 xk) ∧ w'.cell? ⟨e2, f2 + k * 4 + 1, none⟩ = some (.int .i64 xi) ∧ w'.cell? ⟨e2, f2 + k * 4 + 2, none⟩ = some (.string xs) ∧ w'.cell? ⟨e2, f2 + k * 4 + 3, none⟩ = some (.bool xb)) ∧ (w'.cell? ⟨pa, 0, none⟩ = some (.int .i64 k1) ∧ w'.cell? ⟨pa, 1, none⟩ = some (.int .i64 x1) ∧ w'.cell? ⟨pa, 2, none⟩ = some (.string s1) ∧ w'.cell? ⟨pa, 3, none⟩ = some (.bool b1)) ∧ w'.cell? ⟨pa + 1, 0, none⟩ = some (.int .i64 k2) ∧ w'.cell? ⟨pa + 1, 1, none⟩ = some (.int .i64 x2') ∧ w'.cell? ⟨pa + 1, 2, none⟩ = some (.string s2) ∧ w'.cell? ⟨pa + 1, 3, none⟩ = some (.bool b2) from fun w' hb => ⟨⟨(hb.cell (p := ⟨e2, f2 + k * 4, none⟩) he2).trans u0, (hb.cell (p := ⟨e2, f2 + k * 4 + 1, none⟩) he2).trans u1, (hb.cell (p := ⟨e2, f2 + k * 4 + 2, none⟩) he2).trans u2, (hb.cell (p := ⟨e2, f2 + k * 4 + 3, none⟩) he2).trans u3⟩, ⟨(hb.cell (p := ⟨pa, 0, none⟩) hla).trans a0, (hb.cell (p := ⟨pa, 1, none⟩) hla).trans a1, (hb.cell (p := ⟨pa, 2, none⟩) hla).trans a2, (hb.cell (p := ⟨pa, 3, none⟩) hla).trans a3⟩, (hb.cell (p := ⟨pa + 1, 0, none⟩) hlz).trans q0, (hb.cell (p := ⟨pa + 1, 1, none⟩) hlz).trans q1, (hb.cell (p := ⟨pa + 1, 2, none⟩) hlz).trans q2, (hb.cell (p := ⟨pa + 1, 3, none⟩) hlz).trans q3⟩)
            clear hx hxl hB hkl ho1 ho2 e1 e2' ha1 ha2 hk00
            go_wp2_with fail
            have hb := (Below.refl wr.heap.size wr).drew
            have z10 := ZZ.out _ hb
            go_region_held3 (fun w' => (w'.cell? ⟨e2, f2 + k * 4, none⟩ = some (.int .i64 xk) ∧ w'.cell? ⟨e2, f2 + k * 4 + 1, none⟩ = some (.int .i64 xi) ∧ w'.cell? ⟨e2, f2 + k * 4 + 2, none⟩ = some (.string xs) ∧ w'.cell? ⟨e2, f2 + k * 4 + 3, none⟩ = some (.bool xb)) ∧ (w'.cell? ⟨pa, 0, none⟩ = some (.int .i64 k1) ∧ w'.cell? ⟨pa, 1, none⟩ = some (.int .i64 x1) ∧ w'.cell? ⟨pa, 2, none⟩ = some (.string s1) ∧ w'.cell? ⟨pa, 3, none⟩ = some (.bool b1)) ∧ w'.cell? ⟨pa + 1, 0, none⟩ = some (.int .i64 k2) ∧ w'.cell? ⟨pa + 1, 1, none⟩ = some (.int .i64 x2') ∧ w'.cell? ⟨pa + 1, 2, none⟩ = some (.string s2) ∧ w'.cell? ⟨pa + 1, 3, none⟩ = some (.bool b2)) (with_reducible first | exact z10) (first
              | (go_at_call 21; (with_reducible refine (CO1.out _).mono ?_); rintro e wz ⟨rfl, hBz⟩; have hb := hb.trans (hBz.mono hb.size); have z10 := ZZ.out _ hb)
              | (go_at_call 21; (with_reducible refine (CO2.out _).mono ?_); rintro e wz ⟨rfl, hBz⟩; have hb := hb.trans (hBz.mono hb.size); have z10 := ZZ.out _ hb))
            all_goals (
              go_wp2_with fail
              go_roundw
              case rel => exact ⟨k + 1, by go_num, by omega, HB.out.trans (hb.mono HB.out.size)⟩
              case measure => simp [intOf]; omega)
        · have hkI : ¬ (k : Int) < n := by omega
          have y7 := y6.below y6.lt hB
          have g0 := y7.c0
          have g1 := y7.c1
          have g2 := y7.c2
          have Hbf := Lib.hid (Hbk.out.trans (hB.mono Hbk.out.size))
          have hle : (n1 : Int) ≤ (n : Int) := by omega
          clear hB
          go_wp2_with fail
          go_ret
          exact ⟨rfl, Hbf.out⟩
theorem columnDict_says (A : Option Addr) (n c : Nat) (l : List Vl) (w : World) (hV : Wd.Vs w A n c l) (hL : laidMetH Tryd.prog Bw.ls w) :
    Calls Tryd.prog 6 #[.slice A n c] w fun e w' => e = .returned (.bool true) ∧ Below w.heap.size w w' :=
  columnDict_walk A n c l w hV (Bw.tab_of_laid hL)
end Lw
end Go.Proofs.YtnhgijlhnamolaaDoor
