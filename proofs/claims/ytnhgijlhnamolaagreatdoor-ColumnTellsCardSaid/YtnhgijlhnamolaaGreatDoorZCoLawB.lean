/- The walk of the statement ColumnTells of layer 10. -/
import Derived.Test.YtnhgijlhnamolaaGreatDoorPk28
import Derived.Test.YtnhgijlhnamolaaGreatDoorPk29
import Derived.Test.YtnhgijlhnamolaaGreatDoorPk33
import Derived.Test.YtnhgijlhnamolaaGreatDoorPk30
import Derived.Test.YtnhgijlhnamolaaGreatDoorPk34
namespace Go.Proofs.YtnhgijlhnamolaaGreatDoor
set_option maxRecDepth 20000
open Go.RowKit
namespace Lw
open Va (Vl May ord null)
open Sc (tr tr_yes tr_no tr_iff)
open Co Cx
open Bi (I64 Gv hd hd_all)
set_option maxRecDepth 100000 in
set_option maxHeartbeats 16000000 in
theorem columnTells_walk (A : Option Addr) (n c : Nat) (B : Option Addr) (m d : Nat) (C : Col) (i lo hi : Int) (w : World) (h : Cl w A n c B m d C) (hi0 : I64 i) (_hl0 : I64 lo) (_hh0 : I64 hi) (hT : Bi.Tab w) :
    Calls Tryz.prog 3 #[.agg #[.int .i64 C.n, .slice A n c, .slice B m d], .int .i64 i, .int .i64 lo, .int .i64 hi] w fun e w' => e = .returned (.bool true) ∧ Below w.heap.size w w' := by
  have hb0 := (Below.refl w.heap.size w).alloc (Nat.le_refl _) (.cells #[.int .i64 C.n, .slice A n c, .slice B m d] 25)
  have x0 := Cb.new w C.n A n c B m d
  obtain ⟨N, hN⟩ : ∃ N, N = C.n := ⟨_, rfl⟩
  have HN := Lib.hid hN
  rw [← hN] at x0 hb0 ⊢
  obtain ⟨wa, hwa⟩ : ∃ wa, wa = w.alloc (.cells #[.int .i64 N, .slice A n c, .slice B m d] 25) := ⟨_, rfl⟩
  obtain ⟨b, hbq⟩ : ∃ b, b = w.heap.size := ⟨_, rfl⟩
  rw [← hwa] at x0 hb0
  rw [← hbq] at x0
  have Hwa := Lib.hid hwa
  have Hbq := Lib.hid hbq
  have HC := Lib.hid (h.below hb0)
  have Hb0 := Lib.hid hb0
  have HT := Lib.hid (hT.below hb0)
  have hcap := h.dict.cap
  have hmx := h.dict.max
  unfold maxLen at hmx
  obtain ⟨f, hf⟩ : ∃ f, f = tr (LightC C) := ⟨_, rfl⟩
  have Hf := Lib.hid hf
  have Hnl := Lib.hid h.dict.len
  have Hml := Lib.hid h.ids.len
  clear h hb0 hT hN hwa hbq hf
  go_enter Tryz.func3, Tryz.ntmps3
  go_wp2_with fail
  rw [← Hwa.out, ← Hbq.out]
  go_wp2_with fail
  refine (Cx.awake_any wa HT.out).mono ?_
  rintro e w1 ⟨rfl, hB1⟩
  have y1 := x0.below x0.lt hB1
  have HC1 := Lib.hid (HC.out.below hB1)
  have Hb1 := Lib.hid (Hb0.out.trans (hB1.mono Hb0.out.size))
  have HT1 := Lib.hid (HT.out.below hB1)
  clear hB1 x0 HC HT
  have g0 := y1.c0
  have g1 := y1.c1
  have g2 := y1.c2
  have Cl1 := Light_any A n c B m d C w1 HC1.out
  rw [← Hf.out, ← HN.out] at Cl1
  have CL1 := Lib.hid Cl1
  clear Cl1
  go_wp2_with fail
  refine CL1.out.mono ?_
  rintro e w2 ⟨rfl, hB2⟩
  have y2 := y1.below y1.lt hB2
  have HC2 := Lib.hid (HC1.out.below hB2)
  have Hb2 := Lib.hid (Hb1.out.trans (hB2.mono Hb1.out.size))
  have HT2 := Lib.hid (HT1.out.below hB2)
  clear hB2 y1 HC1 HT1 g0 g1 g2 CL1
  cases f with
  | false =>
    go_wp2_with fail
    go_ret
    exact ⟨rfl, Hb2.out⟩
  | true =>
  have hF := tr_iff.1 Hf.out.symm
  have hn : n ≤ 200 := by rw [Hnl.out]; exact hF.1
  have hm : m ≤ 200 := by rw [Hml.out]; exact hF.2.1
  clear hF
  have g0 := y2.c0
  have g1 := y2.c1
  have g2 := y2.c2
  have Ci := refIds_any A n c B m d C w2 HC2.out (by omega) (by omega)
  rw [← HN.out] at Ci
  obtain ⟨r, hr⟩ : ∃ r, r = tr (Valid C) := ⟨_, rfl⟩
  have Hr := Lib.hid hr
  rw [← hr] at Ci
  have CI := Lib.hid Ci
  clear Ci hr
  go_wp2_with fail
  refine CI.out.mono ?_
  rintro e w3 ⟨A3, n3, c3, rfl, -, hB3⟩
  have y3 := y2.below y2.lt hB3
  have HC3 := Lib.hid (HC2.out.below hB3)
  have Hb3 := Lib.hid (Hb2.out.trans (hB3.mono Hb2.out.size))
  have HT3 := Lib.hid (HT2.out.below hB3)
  clear hB3 y2 HC2 HT2 g0 g1 g2 CI
  have g0 := y3.c0
  have g1 := y3.c1
  have g2 := y3.c2
  have Cv := refValues_any A n c B m d C w3 HC3.out (by omega) (by omega)
  rw [← HN.out] at Cv
  obtain ⟨T, hT'⟩ : ∃ T, T = values C := ⟨_, rfl⟩
  have HTv := Lib.hid hT'
  rw [← hT'] at Cv
  have CV := Lib.hid Cv
  clear Cv hT'
  go_wp2_with fail
  refine CV.out.mono ?_
  rintro e w4 ⟨A4, n4, c4, rfl, hV4, hB4⟩
  have y4 := y3.below y3.lt hB4
  have HC4 := Lib.hid (HC3.out.below hB4)
  have Hb4 := Lib.hid (Hb3.out.trans (hB4.mono Hb3.out.size))
  have HT4 := Lib.hid (HT3.out.below hB4)
  have Hn4 := Lib.hid hV4.len
  have hcap4 := hV4.cap
  have hmx4 := hV4.max
  unfold maxLen at hmx4
  have hn4 : n4 ≤ 4096 := by rw [hV4.len, HTv.out, values_len]; exact nums_4096 C
  have HV4 := Lib.hid hV4
  clear hB4 y3 HC3 HT3 g0 g1 g2 CV hV4
  have g0 := y4.c0
  have g1 := y4.c1
  have g2 := y4.c2
  have Cv := values_any A n c B m d C w4 HC4.out (by omega) (by omega)
  rw [← HN.out, ← HTv.out] at Cv
  have CV := Lib.hid Cv
  clear Cv
  go_wp2_with fail
  refine CV.out.mono ?_
  rintro e w5 ⟨A5, n5, c5, rfl, hV5, hB5⟩
  have y5 := y4.below y4.lt hB5
  have HC5 := Lib.hid (HC4.out.below hB5)
  have Hb5 := Lib.hid (Hb4.out.trans (hB5.mono Hb4.out.size))
  have HT5 := Lib.hid (HT4.out.below hB5)
  have HV45 := Lib.hid (HV4.out.below hB5)
  have Cs := Sx.sameV_any A5 n5 c5 T A4 n4 c4 T w5 hV5 HV45.out
  rw [tr_yes rfl] at Cs
  have CS := Lib.hid Cs
  clear hB5 y4 HC4 HT4 g0 g1 g2 CV hV5 HV4 Cs
  go_wp2_with fail
  refine CS.out.mono ?_
  rintro e w6 ⟨rfl, hB6⟩
  have y6 := y5.below y5.lt hB6
  have HC6 := Lib.hid (HC5.out.below hB6)
  have Hb6 := Lib.hid (Hb5.out.trans (hB6.mono Hb5.out.size))
  have HT6 := Lib.hid (HT5.out.below hB6)
  have HV6 := Lib.hid (HV45.out.below hB6)
  clear hB6 y5 HC5 HT5 CS HV45
  have g0 := y6.c0
  have g1 := y6.c1
  have g2 := y6.c2
  have Ca := Cx.at_any A n c B m d C i w6 HC6.out (by omega) (by omega) hi0
  rw [← HN.out] at Ca
  have CA := Lib.hid Ca
  clear Ca
  go_wp2_with fail
  refine CA.out.mono ?_
  rintro e w7 ⟨k, x, s, q, t, hq, rfl, hB7⟩
  have y7 := y6.below y6.lt hB7
  have HC7 := Lib.hid (HC6.out.below hB7)
  have Hb7 := Lib.hid (Hb6.out.trans (hB7.mono Hb6.out.size))
  have HT7 := Lib.hid (HT6.out.below hB7)
  have HV7 := Lib.hid (HV6.out.below hB7)
  have Hq := Lib.hid hq
  have hlb := y7.lt
  clear hB7 y6 HC6 HT6 g0 g1 g2 CA HV6 hq
  have g0 := y7.c0
  have g1 := y7.c1
  have g2 := y7.c2
  have hz := Nat.lt_irrefl 0
  by_cases hin : 0 ≤ i ∧ i < (n4 : Int)
  · obtain ⟨hin0, hin1⟩ := hin
    obtain ⟨j, rfl⟩ : ∃ j : Nat, i = (j : Int) := ⟨i.toNat, by omega⟩
    have hjT : j < T.length := by rw [← Hn4.out]; omega
    obtain ⟨e4, f4, hA, he4, d0, d1, d2, d3, -⟩ := HV7.out.cells (j := j) hjT rfl
    subst hA
    have hat : atv C (j : Int) = (T.getD j default, true) := by
      unfold atv
      rw [if_pos ⟨by omega, by rw [← values_len, ← HTv.out]; omega⟩, Int.toNat_natCast, ← HTv.out]
    rw [hat] at Hq
    obtain ⟨rfl, ht⟩ : t = true ∧ T.getD j default = ⟨k, x, s, q⟩ := by
      have := Hq.out
      simp only [Prod.mk.injEq] at this
      exact ⟨this.2, this.1.symm⟩
    rw [ht] at d0 d1 d2 d3
    clear hat ht hjT Hq
    have hk1 := (Below.refl w7.heap.size w7).alloc (Nat.le_refl _) (.cells #[.int .i64 k, .int .i64 x, .string s, .bool q] 34)
    have hk2 := hk1.alloc hk1.size (.cells #[.int .i64 k, .int .i64 x, .string s, .bool q] 34)
    have v15 : Vc.Vb ((w7.alloc (.cells #[.int .i64 k, .int .i64 x, .string s, .bool q] 34)).alloc (.cells #[.int .i64 k, .int .i64 x, .string s, .bool q] 34)) w7.heap.size k x s q := (Wd.Bx.new w7 _ _).alloc _
    have v18 : Vc.Vb ((w7.alloc (.cells #[.int .i64 k, .int .i64 x, .string s, .bool q] 34)).alloc (.cells #[.int .i64 k, .int .i64 x, .string s, .bool q] 34)) (w7.heap.size + 1) k x s q := by
      have := Wd.Bx.new (w7.alloc (.cells #[.int .i64 k, .int .i64 x, .string s, .bool q] 34)) 34 #[.int .i64 k, .int .i64 x, .string s, .bool q]
      rwa [World.size_alloc] at this
    have y8 := y7.below hlb hk2
    obtain ⟨wk, hwk⟩ : ∃ wk, wk = (w7.alloc (.cells #[.int .i64 k, .int .i64 x, .string s, .bool q] 34)).alloc (.cells #[.int .i64 k, .int .i64 x, .string s, .bool q] 34) := ⟨_, rfl⟩
    rw [← hwk] at hk2 v15 v18 y8
    have Hwk := Lib.hid hwk
    have HC8 := Lib.hid (HC7.out.below hk2)
    have Hb8 := Lib.hid (Hb7.out.trans (hk2.mono Hb7.out.size))
    have HT8 := Lib.hid (HT7.out.below hk2)
    clear hk1 hk2 hwk HC7 HT7 HV7 y7
    go_wp2_with fail
    rw [← Hwk.out]
    clear g0 g1 g2
    have g0 := y8.c0
    have g1 := y8.c1
    have g2 := y8.c2
    have hlb8 := y8.lt
    have CR := Lib.hid fun w' (hb : Below wk.heap.size wk w') => (by have := range_any A n c B m d C lo hi w' (HC8.out.below hb) (by omega) (by omega); rw [← HN.out] at this; exact this : Calls Tryz.prog 13 #[.agg #[.int .i64 N, .slice A n c, .slice B m d], .int .i64 lo, .int .i64 hi] w' (Gv Bw.St w' (rng C lo hi)))
    have RR := Lib.hid fun w' (hb : Below wk.heap.size wk w') => (by have := refRange_any A n c B m d C lo hi w' (HC8.out.below hb) (by omega) (by omega); rw [← HN.out] at this; exact this : Calls Tryz.prog 14 #[.agg #[.int .i64 N, .slice A n c, .slice B m d], .int .i64 lo, .int .i64 hi] w' (Wd.Out w' .i64 (rng C lo hi)))
    have LL := Lib.hid fun w' A' n' c' (hb : Below wk.heap.size wk w') (hS : Bw.St w' A' n' c' (rng C lo hi)) => (by have := Bw.list_of hS (HT8.out.below hb) (-1); rw [hd_all] at this; exact this : Calls Tryz.prog 12 #[.agg #[.slice A' n' c'], .int .i64 (-1)] w' (Wd.Out w' .i64 (rng C lo hi)))
    go_upto_region 13 with fail
    go_cut [19] (fun u wz => u = .bool true ∧ Below wk.heap.size wk wz)
    case first =>
      have hb := (Below.refl wk.heap.size wk).drew
      have z10 : wk.drew.cell? ⟨b, 0, none⟩ = some (.int .i64 N) ∧ wk.drew.cell? ⟨b, 1, none⟩ = some (.slice A n c) ∧ wk.drew.cell? ⟨b, 2, none⟩ = some (.slice B m d) := ⟨g0, g1, g2⟩
      go_region_held3 (fun w' => w'.cell? ⟨b, 0, none⟩ = some (.int .i64 N) ∧ w'.cell? ⟨b, 1, none⟩ = some (.slice A n c) ∧ w'.cell? ⟨b, 2, none⟩ = some (.slice B m d)) (with_reducible first | exact z10) (first
        | (go_at_call 13; (with_reducible refine (CR.out _ hb).mono ?_); rintro e wz ⟨A8, n8, c8, rfl, hS8, hBz⟩; (first | have hL9 := hL9.below hBz | skip); have hb := hb.trans (hBz.mono hb.size); have y9 := y8.below hlb8 hb; have z10 := And.intro y9.c0 (And.intro y9.c1 y9.c2))
        | (go_at_call 12; (with_reducible refine (LL.out _ A8 n8 c8 hb hS8).mono ?_); rintro e wz ⟨A10, n10, c10, rfl, hL10, hBz⟩; (first | have hL9 := hL9.below hBz | skip); have hb := hb.trans (hBz.mono hb.size); have y9 := y8.below hlb8 hb; have z10 := And.intro y9.c0 (And.intro y9.c1 y9.c2))
        | (go_at_call 14; (with_reducible refine (RR.out _ hb).mono ?_); rintro e wz ⟨A9, n9, c9, rfl, hL9, hBz⟩; (first | have hS8 := st_below hS8 hBz | skip); (first | have hL10 := hL10.below hBz | skip); have hb := hb.trans (hBz.mono hb.size); have y9 := y8.below hlb8 hb; have z10 := And.intro y9.c0 (And.intro y9.c1 y9.c2))
        | (go_at_call 11; (with_reducible refine (Nc.ints_yes A10 A9 n10 n9 c10 c9 _ _ _ hL10 hL9 rfl).mono ?_); rintro e wz ⟨rfl, hBz⟩; have hb := hb.trans (hBz.mono hb.size); have y9 := y8.below hlb8 hb; have z10 := And.intro y9.c0 (And.intro y9.c1 y9.c2)))
      all_goals (
        go_wp2_with fail
        go_meet
        exact ⟨rfl, hb⟩)
    case rest =>
      obtain ⟨rfl, hbc⟩ := hcut
      clear CR RR LL g0 g1 g2 d0 d1 d2 d3
      have y9 := y8.below hlb8 hbc
      have v15c := Wd.Bx.below v15 (Wd.Bx.lt v15) hbc
      have v18c := Wd.Bx.below v18 (Wd.Bx.lt v18) hbc
      have HC9 := Lib.hid (HC8.out.below hbc)
      have Hb9 := Lib.hid (Hb8.out.trans (hbc.mono Hb8.out.size))
      clear hbc y8 v15 v18 HC8 HT8
      have g0 := y9.c0
      have g1 := y9.c1
      have g2 := y9.c2
      obtain ⟨PL, PE, hPP⟩ : ∃ PL PE, put C = (PL, PE) := ⟨_, _, rfl⟩
      have Cp := cput_any A n c B m d C wc HC9.out (by omega) (by omega)
      have Cr := fun w' (hb : Below wc.heap.size wc w') => refPut_any A n c B m d C w' (HC9.out.below hb) (by omega) (by omega)
      rw [hPP, ← HN.out] at Cp
      rw [hPP, ← HN.out] at Cr
      have CP := Lib.hid Cp
      have CRr := Lib.hid Cr
      have hpe : (PE != PE) = false := by simp
      clear Cp Cr hPP
      go_wp2_with fail
      refine CP.out.mono ?_
      rintro e w10 ⟨A10, n10, c10, rfl, hS10, hB10⟩
      have y10 := y9.below y9.lt hB10
      have Hb10 := Lib.hid (Hb9.out.trans (hB10.mono Hb9.out.size))
      have HC10 := Lib.hid (HC9.out.below hB10)
      have v15d := Wd.Bx.below v15c (Wd.Bx.lt v15c) hB10
      have v18d := Wd.Bx.below v18c (Wd.Bx.lt v18c) hB10
      have CQ := Lib.hid (CRr.out w10 hB10)
      clear g0 g1 g2 CP CRr hB10 y9 v15c v18c HC9
      have g0 := y10.c0
      have g1 := y10.c1
      have g2 := y10.c2
      go_wp2_with fail
      refine CQ.out.mono ?_
      rintro e w11 ⟨A11, n11, c11, rfl, hS11, hB11⟩
      have y11 := y10.below y10.lt hB11
      have Hb11 := Lib.hid (Hb10.out.trans (hB11.mono Hb10.out.size))
      have HC11 := Lib.hid (HC10.out.below hB11)
      have v15e := Wd.Bx.below v15d (Wd.Bx.lt v15d) hB11
      have v18e := Wd.Bx.below v18d (Wd.Bx.lt v18d) hB11
      have CSm := Lib.hid (Nc.same_yes A10 A11 n10 n11 c10 c11 _ _ w11 (hS10.below hB11) hS11 rfl)
      clear g0 g1 g2 CQ hB11 y10 v15d v18d HC10 hS10 hS11
      go_wp2_with fail
      refine CSm.out.mono ?_
      rintro e w12 ⟨rfl, hB12⟩
      have y12 := y11.below y11.lt hB12
      have Hb12 := Lib.hid (Hb11.out.trans (hB12.mono Hb11.out.size))
      have HC12 := Lib.hid (HC11.out.below hB12)
      have v15f := Wd.Bx.below v15e (Wd.Bx.lt v15e) hB12
      have v18f := Wd.Bx.below v18e (Wd.Bx.lt v18e) hB12
      have Cm := cmay_any A n c B m d C w12 HC12.out (by omega) (by omega)
      rw [← HN.out, ← Hr.out] at Cm
      have CM := Lib.hid Cm
      clear hB12 y11 v15e v18e HC11 Cm CSm
      have g0 := y12.c0
      have g1 := y12.c1
      have g2 := y12.c2
      go_wp2_with fail
      refine CM.out.mono ?_
      rintro e w13 ⟨rfl, hB13⟩
      have y13 := y12.below y12.lt hB13
      have Hb13 := Lib.hid (Hb12.out.trans (hB13.mono Hb12.out.size))
      have HC13 := Lib.hid (HC12.out.below hB13)
      have v15g := Wd.Bx.below v15f (Wd.Bx.lt v15f) hB13
      have v18g := Wd.Bx.below v18f (Wd.Bx.lt v18f) hB13
      have CEn := Cx.ends_any A n c B m d C w13 HC13.out (by omega) (by omega)
      rw [← HN.out] at CEn
      have CE := Lib.hid CEn
      have hrr : (r != r) = false := by simp
      have heq := fun w => Vc.eqV k x s q k x s q w
      have hg : Tryz.prog.eqGuardType Tryz.prog.depth 34 = false := by kernel_rfl
      obtain ⟨⟨m0, m1, m2, m3⟩, -⟩ := Vc.four v15g
      obtain ⟨⟨l0, l1, l2, l3⟩, -⟩ := Vc.four v18g
      clear g0 g1 g2 hB13 y12 v15f v18f HC12 CEn CM v15g v18g
      have g0 := y13.c0
      have g1 := y13.c1
      have g2 := y13.c2
      have hlb13 := y13.lt
      go_wp2_with fail
      refine CE.out.mono ?_
      rintro e w14 ⟨k1, x1, s1, b1, k2, x2, s2, b2, t2, hE, rfl, hB14⟩
      have y14 := y13.below y13.lt hB14
      have Hb14 := Lib.hid (Hb13.out.trans (hB14.mono Hb13.out.size))
      have HC14 := Lib.hid (HC13.out.below hB14)
      have HE := Lib.hid hE
      clear g0 g1 g2 hB14 y13 HC13 CE m0 m1 m2 m3 l0 l1 l2 l3 heq hrr hpe hE
      have g0 := y14.c0
      have g1 := y14.c1
      have g2 := y14.c2
      have hlb14 := y14.lt
      have heq0 := fun w => Vc.eqV 0 0 ⟨#[]⟩ false 0 0 ⟨#[]⟩ false w
      have fin : ∀ w', Below w14.heap.size w14 w' → Below w.heap.size w w' := fun w' hb => Hb14.out.trans (hb.mono Hb14.out.size)
      have Fin := Lib.hid fin
      clear fin
      have none_ : ¬ (Valid C ∧ fst1 C.dict < C.dict.length) → k1 = 0 ∧ x1 = 0 ∧ s1 = ⟨#[]⟩ ∧ b1 = false ∧ k2 = 0 ∧ x2 = 0 ∧ s2 = ⟨#[]⟩ ∧ b2 = false ∧ t2 = false := fun z => by
        have h1 := HE.out
        unfold ends at h1
        rw [tr_no z] at h1
        simp only [null, Prod.mk.injEq, Va.Vl.mk.injEq, Bool.false_eq_true, if_false] at h1
        obtain ⟨⟨a1, a2, a3, a4⟩, ⟨a5, a6, a7, a8⟩, a9⟩ := h1
        exact ⟨a1, a2, a3, a4, a5, a6, a7, a8, a9⟩
      have some_ : Valid C ∧ fst1 C.dict < C.dict.length → C.dict.getD (fst1 C.dict) default = ⟨k1, x1, s1, b1⟩ ∧ C.dict.getD (C.dict.length - 1) default = ⟨k2, x2, s2, b2⟩ ∧ t2 = true := fun z => by
        have h1 := HE.out
        unfold ends at h1
        rw [if_pos (tr_yes z)] at h1
        simp only [Prod.mk.injEq] at h1
        exact ⟨h1.1.symm, h1.2.1.symm, h1.2.2⟩
      have None := Lib.hid none_
      have Some := Lib.hid some_
      clear none_ some_ HE
      by_cases hn0 : n = 0
      · have hnv : ¬ (Valid C ∧ fst1 C.dict < C.dict.length) := fun z => by have h1 := z.2; have h2 := Hnl.out; omega
        obtain ⟨rfl, rfl, rfl, rfl, rfl, rfl, rfl, rfl, rfl⟩ := None.out hnv
        subst hn0
        clear hnv None Some
        cases r
        all_goals (
          go_wp2_with fail
          go_ret
          exact ⟨rfl, Fin.out _ (((Below.refl _ _).alloc (Nat.le_refl _) _).alloc (by simp) _)⟩)
      have hnp : 0 < n := by omega
      obtain ⟨eb, eo, hA0, hel, d0, d1, d2, d3, -⟩ := HC14.out.dict.cells (j := 0) (by rw [← Hnl.out]; exact hnp) rfl
      subst hA0
      obtain ⟨z, hz⟩ : ∃ z, z = C.dict.getD 0 default := ⟨_, rfl⟩
      rw [← hz] at d0 d1 d2 d3
      simp only [Nat.zero_mul, Nat.add_zero] at d0 d1 d2 d3
      have Hz := Lib.hid hz
      clear hz
      by_cases hkz : z.kind = 0
      · have hf : fst1 C.dict = 1 := by unfold fst1; rw [if_pos ⟨by rw [← Hz.out]; exact hkz, by rw [← Hnl.out]; exact hnp⟩]
        have Hf1 := Lib.hid hf
        rw [hkz] at d0
        clear hf hkz
        cases r with
        | false =>
          obtain ⟨rfl, rfl, rfl, rfl, rfl, rfl, rfl, rfl, rfl⟩ := None.out (fun z => by have := Hr.out; rw [tr_yes z.1] at this; cases this)
          clear None Some d1 d2 d3
          go_wp2_with fail
          go_ret
          exact ⟨rfl, Fin.out _ (((Below.refl _ _).alloc (Nat.le_refl _) _).alloc (by simp) _)⟩
        | true =>
          by_cases hn1 : n = 1
          · obtain ⟨rfl, rfl, rfl, rfl, rfl, rfl, rfl, rfl, rfl⟩ := None.out (fun z => by have h1 := z.2; have h2 := Hnl.out; rw [Hf1.out] at h1; omega)
            subst hn1
            clear None Some d1 d2 d3
            go_wp2_with fail
            go_ret
            exact ⟨rfl, Fin.out _ (((Below.refl _ _).alloc (Nat.le_refl _) _).alloc (by simp) _)⟩
          · have hn2 : 2 ≤ n := by omega
            obtain ⟨eb', eo', hA0, -, p0, p1, p2, p3, -⟩ := HC14.out.dict.cells (j := 1) (by rw [← Hnl.out]; omega) rfl
            cases hA0
            obtain ⟨eb', eo', hA0, -, q0, q1, q2, q3, -⟩ := HC14.out.dict.cells (j := n - 1) (by rw [← Hnl.out]; omega) rfl
            cases hA0
            obtain ⟨e1, e2, rfl⟩ := Some.out ⟨tr_iff.1 Hr.out.symm, by rw [Hf1.out, ← Hnl.out]; omega⟩
            rw [Hf1.out] at e1
            rw [← Hnl.out] at e2
            rw [e1] at p0 p1 p2 p3
            rw [e2] at q0 q1 q2 q3
            simp only [Nat.one_mul] at p0 p1 p2 p3
            have heq1 := fun w => Vc.eqV k1 x1 s1 b1 k1 x1 s1 b1 w
            have heq2 := fun w => Vc.eqV k2 x2 s2 b2 k2 x2 s2 b2 w
            have hw1 : IntKind.i64.wrap ((n : Int) - 1) = (n : Int) - 1 := by rw [IntKind.wrap_i64]; omega
            have hw2 : (0 : Int) ≤ (n : Int) - 1 := by omega
            have hw3 : (n : Int) - 1 < (n : Int) := by omega
            have hw4 : ((n : Int) - 1).toNat = n - 1 := by omega
            have hw5 : (1 : Int) < (n : Int) := by omega
            have hw6 : ((n : Int) == 1) = false := by simp; omega
            clear None Some d1 d2 d3 e1 e2 heq0
            go_wp2_with fail
            go_quiet (fail)
            go_wp2_with fail
            go_ret
            exact ⟨rfl, Wd.below_drewN (Fin.out _ (((Below.refl _ _).alloc (Nat.le_refl _) _).alloc (by simp) _)) _⟩
      · have hf : fst1 C.dict = 0 := by unfold fst1; rw [if_neg (fun q => hkz (by rw [Hz.out]; exact q.1))]
        have Hf1 := Lib.hid hf
        have hkb : (z.kind == 0) = false := by simpa using hkz
        clear hf hkz
        cases r with
        | false =>
          obtain ⟨rfl, rfl, rfl, rfl, rfl, rfl, rfl, rfl, rfl⟩ := None.out (fun z => by have := Hr.out; rw [tr_yes z.1] at this; cases this)
          clear None Some d1 d2 d3
          go_wp2_with fail
          go_ret
          exact ⟨rfl, Fin.out _ (((Below.refl _ _).alloc (Nat.le_refl _) _).alloc (by simp) _)⟩
        | true =>
          obtain ⟨eb', eo', hA0, -, q0, q1, q2, q3, -⟩ := HC14.out.dict.cells (j := n - 1) (by rw [← Hnl.out]; omega) rfl
          cases hA0
          obtain ⟨e1, e2, rfl⟩ := Some.out ⟨tr_iff.1 Hr.out.symm, by rw [Hf1.out, ← Hnl.out]; omega⟩
          rw [Hf1.out, ← Hz.out] at e1
          rw [← Hnl.out] at e2
          subst e1
          rw [e2] at q0 q1 q2 q3
          simp only [] at d0 d1 d2 d3 hkb
          have heq1 := fun w => Vc.eqV k1 x1 s1 b1 k1 x1 s1 b1 w
          have heq2 := fun w => Vc.eqV k2 x2 s2 b2 k2 x2 s2 b2 w
          have hw1 : IntKind.i64.wrap ((n : Int) - 1) = (n : Int) - 1 := by rw [IntKind.wrap_i64]; omega
          have hw2 : (0 : Int) ≤ (n : Int) - 1 := by omega
          have hw3 : (n : Int) - 1 < (n : Int) := by omega
          have hw4 : ((n : Int) - 1).toNat = n - 1 := by omega
          have hw5 : (0 : Int) < (n : Int) := by omega
          have hw6 : ((n : Int) == 0) = false := by simp; omega
          clear None Some e2 heq0
          go_wp2_with fail
          go_quiet (fail)
          go_wp2_with fail
          go_ret
          exact ⟨rfl, Wd.below_drewN (Fin.out _ (((Below.refl _ _).alloc (Nat.le_refl _) _).alloc (by simp) _)) _⟩
  · have hat : atv C i = (null, false) := by
      unfold atv
      exact if_neg (fun z => hin ⟨z.1, by have h1 := z.2; rw [← values_len, ← HTv.out, ← Hn4.out] at h1; exact h1⟩)
    rw [hat] at Hq
    obtain ⟨rfl, rfl, rfl, rfl, rfl⟩ : t = false ∧ k = 0 ∧ x = 0 ∧ s = ⟨#[]⟩ ∧ q = false := by
      have := Hq.out
      simp only [Prod.mk.injEq, null, Va.Vl.mk.injEq] at this
      exact ⟨this.2, this.1.1, this.1.2.1, this.1.2.2.1, this.1.2.2.2⟩
    have hcase : i < 0 ∨ (0 ≤ i ∧ (n4 : Int) ≤ i) := by omega
    clear hat Hq hin
    rcases hcase with hc0 | ⟨hc0, hc1⟩
    all_goals (
      have hk1 := (Below.refl w7.heap.size w7).alloc (Nat.le_refl _) (.cells #[.int .i64 0, .int .i64 0, .string ⟨#[]⟩, .bool false] 34)
      have hk2 := hk1.alloc hk1.size (.cells #[.int .i64 0, .int .i64 0, .string ⟨#[]⟩, .bool false] 34)
      have v15 : Vc.Vb ((w7.alloc (.cells #[.int .i64 0, .int .i64 0, .string ⟨#[]⟩, .bool false] 34)).alloc (.cells #[.int .i64 0, .int .i64 0, .string ⟨#[]⟩, .bool false] 34)) w7.heap.size 0 0 ⟨#[]⟩ false := (Wd.Bx.new w7 _ _).alloc _
      have v18 : Vc.Vb ((w7.alloc (.cells #[.int .i64 0, .int .i64 0, .string ⟨#[]⟩, .bool false] 34)).alloc (.cells #[.int .i64 0, .int .i64 0, .string ⟨#[]⟩, .bool false] 34)) (w7.heap.size + 1) 0 0 ⟨#[]⟩ false := by
        have := Wd.Bx.new (w7.alloc (.cells #[.int .i64 0, .int .i64 0, .string ⟨#[]⟩, .bool false] 34)) 34 #[.int .i64 0, .int .i64 0, .string ⟨#[]⟩, .bool false]
        rwa [World.size_alloc] at this
      have y8 := y7.below hlb hk2
      obtain ⟨wk, hwk⟩ : ∃ wk, wk = (w7.alloc (.cells #[.int .i64 0, .int .i64 0, .string ⟨#[]⟩, .bool false] 34)).alloc (.cells #[.int .i64 0, .int .i64 0, .string ⟨#[]⟩, .bool false] 34) := ⟨_, rfl⟩
      rw [← hwk] at hk2 v15 v18 y8
      have Hwk := Lib.hid hwk
      have HC8 := Lib.hid (HC7.out.below hk2)
      have Hb8 := Lib.hid (Hb7.out.trans (hk2.mono Hb7.out.size))
      have HT8 := Lib.hid (HT7.out.below hk2)
      clear hk1 hk2 hwk HC7 HT7 HV7 y7
      go_wp2_with fail
      rw [← Hwk.out]
      clear g0 g1 g2
      have g0 := y8.c0
      have g1 := y8.c1
      have g2 := y8.c2
      have hlb8 := y8.lt
      have CR := Lib.hid fun w' (hb : Below wk.heap.size wk w') => (by have := range_any A n c B m d C lo hi w' (HC8.out.below hb) (by omega) (by omega); rw [← HN.out] at this; exact this : Calls Tryz.prog 13 #[.agg #[.int .i64 N, .slice A n c, .slice B m d], .int .i64 lo, .int .i64 hi] w' (Gv Bw.St w' (rng C lo hi)))
      have RR := Lib.hid fun w' (hb : Below wk.heap.size wk w') => (by have := refRange_any A n c B m d C lo hi w' (HC8.out.below hb) (by omega) (by omega); rw [← HN.out] at this; exact this : Calls Tryz.prog 14 #[.agg #[.int .i64 N, .slice A n c, .slice B m d], .int .i64 lo, .int .i64 hi] w' (Wd.Out w' .i64 (rng C lo hi)))
      have LL := Lib.hid fun w' A' n' c' (hb : Below wk.heap.size wk w') (hS : Bw.St w' A' n' c' (rng C lo hi)) => (by have := Bw.list_of hS (HT8.out.below hb) (-1); rw [hd_all] at this; exact this : Calls Tryz.prog 12 #[.agg #[.slice A' n' c'], .int .i64 (-1)] w' (Wd.Out w' .i64 (rng C lo hi)))
      go_upto_region 13 with fail
      go_cut [19] (fun u wz => u = .bool true ∧ Below wk.heap.size wk wz)
      case first =>
        have hb := (Below.refl wk.heap.size wk).drew
        have z10 : wk.drew.cell? ⟨b, 0, none⟩ = some (.int .i64 N) ∧ wk.drew.cell? ⟨b, 1, none⟩ = some (.slice A n c) ∧ wk.drew.cell? ⟨b, 2, none⟩ = some (.slice B m d) := ⟨g0, g1, g2⟩
        go_region_held3 (fun w' => w'.cell? ⟨b, 0, none⟩ = some (.int .i64 N) ∧ w'.cell? ⟨b, 1, none⟩ = some (.slice A n c) ∧ w'.cell? ⟨b, 2, none⟩ = some (.slice B m d)) (with_reducible first | exact z10) (first
          | (go_at_call 13; (with_reducible refine (CR.out _ hb).mono ?_); rintro e wz ⟨A8, n8, c8, rfl, hS8, hBz⟩; (first | have hL9 := hL9.below hBz | skip); have hb := hb.trans (hBz.mono hb.size); have y9 := y8.below hlb8 hb; have z10 := And.intro y9.c0 (And.intro y9.c1 y9.c2))
          | (go_at_call 12; (with_reducible refine (LL.out _ A8 n8 c8 hb hS8).mono ?_); rintro e wz ⟨A10, n10, c10, rfl, hL10, hBz⟩; (first | have hL9 := hL9.below hBz | skip); have hb := hb.trans (hBz.mono hb.size); have y9 := y8.below hlb8 hb; have z10 := And.intro y9.c0 (And.intro y9.c1 y9.c2))
          | (go_at_call 14; (with_reducible refine (RR.out _ hb).mono ?_); rintro e wz ⟨A9, n9, c9, rfl, hL9, hBz⟩; (first | have hS8 := st_below hS8 hBz | skip); (first | have hL10 := hL10.below hBz | skip); have hb := hb.trans (hBz.mono hb.size); have y9 := y8.below hlb8 hb; have z10 := And.intro y9.c0 (And.intro y9.c1 y9.c2))
          | (go_at_call 11; (with_reducible refine (Nc.ints_yes A10 A9 n10 n9 c10 c9 _ _ _ hL10 hL9 rfl).mono ?_); rintro e wz ⟨rfl, hBz⟩; have hb := hb.trans (hBz.mono hb.size); have y9 := y8.below hlb8 hb; have z10 := And.intro y9.c0 (And.intro y9.c1 y9.c2)))
        all_goals (
          go_wp2_with fail
          go_meet
          exact ⟨rfl, hb⟩)
      case rest =>
        obtain ⟨rfl, hbc⟩ := hcut
        clear CR RR LL g0 g1 g2
        have y9 := y8.below hlb8 hbc
        have v15c := Wd.Bx.below v15 (Wd.Bx.lt v15) hbc
        have v18c := Wd.Bx.below v18 (Wd.Bx.lt v18) hbc
        have HC9 := Lib.hid (HC8.out.below hbc)
        have Hb9 := Lib.hid (Hb8.out.trans (hbc.mono Hb8.out.size))
        clear hbc y8 v15 v18 HC8 HT8
        have g0 := y9.c0
        have g1 := y9.c1
        have g2 := y9.c2
        obtain ⟨PL, PE, hPP⟩ : ∃ PL PE, put C = (PL, PE) := ⟨_, _, rfl⟩
        have Cp := cput_any A n c B m d C wc HC9.out (by omega) (by omega)
        have Cr := fun w' (hb : Below wc.heap.size wc w') => refPut_any A n c B m d C w' (HC9.out.below hb) (by omega) (by omega)
        rw [hPP, ← HN.out] at Cp
        rw [hPP, ← HN.out] at Cr
        have CP := Lib.hid Cp
        have CRr := Lib.hid Cr
        have hpe : (PE != PE) = false := by simp
        clear Cp Cr hPP
        go_wp2_with fail
        refine CP.out.mono ?_
        rintro e w10 ⟨A10, n10, c10, rfl, hS10, hB10⟩
        have y10 := y9.below y9.lt hB10
        have Hb10 := Lib.hid (Hb9.out.trans (hB10.mono Hb9.out.size))
        have HC10 := Lib.hid (HC9.out.below hB10)
        have v15d := Wd.Bx.below v15c (Wd.Bx.lt v15c) hB10
        have v18d := Wd.Bx.below v18c (Wd.Bx.lt v18c) hB10
        have CQ := Lib.hid (CRr.out w10 hB10)
        clear g0 g1 g2 CP CRr hB10 y9 v15c v18c HC9
        have g0 := y10.c0
        have g1 := y10.c1
        have g2 := y10.c2
        go_wp2_with fail
        refine CQ.out.mono ?_
        rintro e w11 ⟨A11, n11, c11, rfl, hS11, hB11⟩
        have y11 := y10.below y10.lt hB11
        have Hb11 := Lib.hid (Hb10.out.trans (hB11.mono Hb10.out.size))
        have HC11 := Lib.hid (HC10.out.below hB11)
        have v15e := Wd.Bx.below v15d (Wd.Bx.lt v15d) hB11
        have v18e := Wd.Bx.below v18d (Wd.Bx.lt v18d) hB11
        have CSm := Lib.hid (Nc.same_yes A10 A11 n10 n11 c10 c11 _ _ w11 (hS10.below hB11) hS11 rfl)
        clear g0 g1 g2 CQ hB11 y10 v15d v18d HC10 hS10 hS11
        go_wp2_with fail
        refine CSm.out.mono ?_
        rintro e w12 ⟨rfl, hB12⟩
        have y12 := y11.below y11.lt hB12
        have Hb12 := Lib.hid (Hb11.out.trans (hB12.mono Hb11.out.size))
        have HC12 := Lib.hid (HC11.out.below hB12)
        have v15f := Wd.Bx.below v15e (Wd.Bx.lt v15e) hB12
        have v18f := Wd.Bx.below v18e (Wd.Bx.lt v18e) hB12
        have Cm := cmay_any A n c B m d C w12 HC12.out (by omega) (by omega)
        rw [← HN.out, ← Hr.out] at Cm
        have CM := Lib.hid Cm
        clear hB12 y11 v15e v18e HC11 Cm CSm
        have g0 := y12.c0
        have g1 := y12.c1
        have g2 := y12.c2
        go_wp2_with fail
        refine CM.out.mono ?_
        rintro e w13 ⟨rfl, hB13⟩
        have y13 := y12.below y12.lt hB13
        have Hb13 := Lib.hid (Hb12.out.trans (hB13.mono Hb12.out.size))
        have HC13 := Lib.hid (HC12.out.below hB13)
        have v15g := Wd.Bx.below v15f (Wd.Bx.lt v15f) hB13
        have v18g := Wd.Bx.below v18f (Wd.Bx.lt v18f) hB13
        have CEn := Cx.ends_any A n c B m d C w13 HC13.out (by omega) (by omega)
        rw [← HN.out] at CEn
        have CE := Lib.hid CEn
        have hrr : (r != r) = false := by simp
        have heq := fun w => Vc.eqV 0 0 ⟨#[]⟩ false 0 0 ⟨#[]⟩ false w
        have hg : Tryz.prog.eqGuardType Tryz.prog.depth 34 = false := by kernel_rfl
        obtain ⟨⟨m0, m1, m2, m3⟩, -⟩ := Vc.four v15g
        obtain ⟨⟨l0, l1, l2, l3⟩, -⟩ := Vc.four v18g
        clear g0 g1 g2 hB13 y12 v15f v18f HC12 CEn CM v15g v18g
        have g0 := y13.c0
        have g1 := y13.c1
        have g2 := y13.c2
        have hlb13 := y13.lt
        go_wp2_with fail
        refine CE.out.mono ?_
        rintro e w14 ⟨k1, x1, s1, b1, k2, x2, s2, b2, t2, hE, rfl, hB14⟩
        have y14 := y13.below y13.lt hB14
        have Hb14 := Lib.hid (Hb13.out.trans (hB14.mono Hb13.out.size))
        have HC14 := Lib.hid (HC13.out.below hB14)
        have HE := Lib.hid hE
        clear g0 g1 g2 hB14 y13 HC13 CE m0 m1 m2 m3 l0 l1 l2 l3 heq hrr hpe hE
        have g0 := y14.c0
        have g1 := y14.c1
        have g2 := y14.c2
        have hlb14 := y14.lt
        have heq0 := fun w => Vc.eqV 0 0 ⟨#[]⟩ false 0 0 ⟨#[]⟩ false w
        have fin : ∀ w', Below w14.heap.size w14 w' → Below w.heap.size w w' := fun w' hb => Hb14.out.trans (hb.mono Hb14.out.size)
        have Fin := Lib.hid fin
        clear fin
        have none_ : ¬ (Valid C ∧ fst1 C.dict < C.dict.length) → k1 = 0 ∧ x1 = 0 ∧ s1 = ⟨#[]⟩ ∧ b1 = false ∧ k2 = 0 ∧ x2 = 0 ∧ s2 = ⟨#[]⟩ ∧ b2 = false ∧ t2 = false := fun z => by
          have h1 := HE.out
          unfold ends at h1
          rw [tr_no z] at h1
          simp only [null, Prod.mk.injEq, Va.Vl.mk.injEq, Bool.false_eq_true, if_false] at h1
          obtain ⟨⟨a1, a2, a3, a4⟩, ⟨a5, a6, a7, a8⟩, a9⟩ := h1
          exact ⟨a1, a2, a3, a4, a5, a6, a7, a8, a9⟩
        have some_ : Valid C ∧ fst1 C.dict < C.dict.length → C.dict.getD (fst1 C.dict) default = ⟨k1, x1, s1, b1⟩ ∧ C.dict.getD (C.dict.length - 1) default = ⟨k2, x2, s2, b2⟩ ∧ t2 = true := fun z => by
          have h1 := HE.out
          unfold ends at h1
          rw [if_pos (tr_yes z)] at h1
          simp only [Prod.mk.injEq] at h1
          exact ⟨h1.1.symm, h1.2.1.symm, h1.2.2⟩
        have None := Lib.hid none_
        have Some := Lib.hid some_
        clear none_ some_ HE
        by_cases hn0 : n = 0
        · have hnv : ¬ (Valid C ∧ fst1 C.dict < C.dict.length) := fun z => by have h1 := z.2; have h2 := Hnl.out; omega
          obtain ⟨rfl, rfl, rfl, rfl, rfl, rfl, rfl, rfl, rfl⟩ := None.out hnv
          subst hn0
          clear hnv None Some
          cases r
          all_goals (
            go_wp2_with fail
            go_ret
            exact ⟨rfl, Fin.out _ (((Below.refl _ _).alloc (Nat.le_refl _) _).alloc (by simp) _)⟩)
        have hnp : 0 < n := by omega
        obtain ⟨eb, eo, hA0, hel, d0, d1, d2, d3, -⟩ := HC14.out.dict.cells (j := 0) (by rw [← Hnl.out]; exact hnp) rfl
        subst hA0
        obtain ⟨z, hz⟩ : ∃ z, z = C.dict.getD 0 default := ⟨_, rfl⟩
        rw [← hz] at d0 d1 d2 d3
        simp only [Nat.zero_mul, Nat.add_zero] at d0 d1 d2 d3
        have Hz := Lib.hid hz
        clear hz
        by_cases hkz : z.kind = 0
        · have hf : fst1 C.dict = 1 := by unfold fst1; rw [if_pos ⟨by rw [← Hz.out]; exact hkz, by rw [← Hnl.out]; exact hnp⟩]
          have Hf1 := Lib.hid hf
          rw [hkz] at d0
          clear hf hkz
          cases r with
          | false =>
            obtain ⟨rfl, rfl, rfl, rfl, rfl, rfl, rfl, rfl, rfl⟩ := None.out (fun z => by have := Hr.out; rw [tr_yes z.1] at this; cases this)
            clear None Some d1 d2 d3
            go_wp2_with fail
            go_ret
            exact ⟨rfl, Fin.out _ (((Below.refl _ _).alloc (Nat.le_refl _) _).alloc (by simp) _)⟩
          | true =>
            by_cases hn1 : n = 1
            · obtain ⟨rfl, rfl, rfl, rfl, rfl, rfl, rfl, rfl, rfl⟩ := None.out (fun z => by have h1 := z.2; have h2 := Hnl.out; rw [Hf1.out] at h1; omega)
              subst hn1
              clear None Some d1 d2 d3
              go_wp2_with fail
              go_ret
              exact ⟨rfl, Fin.out _ (((Below.refl _ _).alloc (Nat.le_refl _) _).alloc (by simp) _)⟩
            · have hn2 : 2 ≤ n := by omega
              obtain ⟨eb', eo', hA0, -, p0, p1, p2, p3, -⟩ := HC14.out.dict.cells (j := 1) (by rw [← Hnl.out]; omega) rfl
              cases hA0
              obtain ⟨eb', eo', hA0, -, q0, q1, q2, q3, -⟩ := HC14.out.dict.cells (j := n - 1) (by rw [← Hnl.out]; omega) rfl
              cases hA0
              obtain ⟨e1, e2, rfl⟩ := Some.out ⟨tr_iff.1 Hr.out.symm, by rw [Hf1.out, ← Hnl.out]; omega⟩
              rw [Hf1.out] at e1
              rw [← Hnl.out] at e2
              rw [e1] at p0 p1 p2 p3
              rw [e2] at q0 q1 q2 q3
              simp only [Nat.one_mul] at p0 p1 p2 p3
              have heq1 := fun w => Vc.eqV k1 x1 s1 b1 k1 x1 s1 b1 w
              have heq2 := fun w => Vc.eqV k2 x2 s2 b2 k2 x2 s2 b2 w
              have hw1 : IntKind.i64.wrap ((n : Int) - 1) = (n : Int) - 1 := by rw [IntKind.wrap_i64]; omega
              have hw2 : (0 : Int) ≤ (n : Int) - 1 := by omega
              have hw3 : (n : Int) - 1 < (n : Int) := by omega
              have hw4 : ((n : Int) - 1).toNat = n - 1 := by omega
              have hw5 : (1 : Int) < (n : Int) := by omega
              have hw6 : ((n : Int) == 1) = false := by simp; omega
              clear None Some d1 d2 d3 e1 e2 heq0
              go_wp2_with fail
              go_quiet (fail)
              go_wp2_with fail
              go_ret
              exact ⟨rfl, Wd.below_drewN (Fin.out _ (((Below.refl _ _).alloc (Nat.le_refl _) _).alloc (by simp) _)) _⟩
        · have hf : fst1 C.dict = 0 := by unfold fst1; rw [if_neg (fun q => hkz (by rw [Hz.out]; exact q.1))]
          have Hf1 := Lib.hid hf
          have hkb : (z.kind == 0) = false := by simpa using hkz
          clear hf hkz
          cases r with
          | false =>
            obtain ⟨rfl, rfl, rfl, rfl, rfl, rfl, rfl, rfl, rfl⟩ := None.out (fun z => by have := Hr.out; rw [tr_yes z.1] at this; cases this)
            clear None Some d1 d2 d3
            go_wp2_with fail
            go_ret
            exact ⟨rfl, Fin.out _ (((Below.refl _ _).alloc (Nat.le_refl _) _).alloc (by simp) _)⟩
          | true =>
            obtain ⟨eb', eo', hA0, -, q0, q1, q2, q3, -⟩ := HC14.out.dict.cells (j := n - 1) (by rw [← Hnl.out]; omega) rfl
            cases hA0
            obtain ⟨e1, e2, rfl⟩ := Some.out ⟨tr_iff.1 Hr.out.symm, by rw [Hf1.out, ← Hnl.out]; omega⟩
            rw [Hf1.out, ← Hz.out] at e1
            rw [← Hnl.out] at e2
            subst e1
            rw [e2] at q0 q1 q2 q3
            simp only [] at d0 d1 d2 d3 hkb
            have heq1 := fun w => Vc.eqV k1 x1 s1 b1 k1 x1 s1 b1 w
            have heq2 := fun w => Vc.eqV k2 x2 s2 b2 k2 x2 s2 b2 w
            have hw1 : IntKind.i64.wrap ((n : Int) - 1) = (n : Int) - 1 := by rw [IntKind.wrap_i64]; omega
            have hw2 : (0 : Int) ≤ (n : Int) - 1 := by omega
            have hw3 : (n : Int) - 1 < (n : Int) := by omega
            have hw4 : ((n : Int) - 1).toNat = n - 1 := by omega
            have hw5 : (0 : Int) < (n : Int) := by omega
            have hw6 : ((n : Int) == 0) = false := by simp; omega
            clear None Some e2 heq0
            go_wp2_with fail
            go_quiet (fail)
            go_wp2_with fail
            go_ret
            exact ⟨rfl, Wd.below_drewN (Fin.out _ (((Below.refl _ _).alloc (Nat.le_refl _) _).alloc (by simp) _)) _⟩)
theorem columnTells_says (A : Option Addr) (n c : Nat) (B : Option Addr) (m d : Nat) (C : Col) (i lo hi : Int) (w : World) (h : Cl w A n c B m d C) (i0 : -9223372036854775808 ≤ i) (i1 : i ≤ 9223372036854775807) (l0 : -9223372036854775808 ≤ lo) (l1 : lo ≤ 9223372036854775807) (h0 : -9223372036854775808 ≤ hi) (h1 : hi ≤ 9223372036854775807) (hL : laidMetH Tryz.prog Bw.ls w) :
    Calls Tryz.prog 3 #[.agg #[.int .i64 C.n, .slice A n c, .slice B m d], .int .i64 i, .int .i64 lo, .int .i64 hi] w fun e w' => e = .returned (.bool true) ∧ Below w.heap.size w w' :=
  columnTells_walk A n c B m d C i lo hi w h ⟨i0, i1⟩ ⟨l0, l1⟩ ⟨h0, h1⟩ (Bw.tab_of_laid hL)
end Lw
end Go.Proofs.YtnhgijlhnamolaaGreatDoor
