/- The walk of the statement ColumnBack of layer 10. -/
import Derived.Test.YtnhgijlhnamolaaDoorPk29
import Derived.Test.YtnhgijlhnamolaaDoorPk30
import Derived.Test.YtnhgijlhnamolaaDoorPk33
import Derived.Test.YtnhgijlhnamolaaDoorPk35
namespace Go.Proofs.YtnhgijlhnamolaaDoor
set_option maxRecDepth 20000
open Go.RowKit
namespace Co
open Va (Vl May ord null)
open Dc
theorem puts_len {C : Col} (h : Valid C) (hd : C.dict.length ≤ 1000) : (puts C).length ≤ 150000 := by
  obtain ⟨N, W, _, _, hW, hN, hl, _⟩ := Bc.unE_inv h.un0
  have h1 := (Nm.vd_len C.n).2
  have h2 := (Nm.vd_len (C.dict.length : Int)).2
  have h3 := Cx.putD_len (D := C.dict) h.ris.1
  have h4 := Nat.mul_le_mul hN hW
  unfold puts
  simp only [List.length_append]
  omega
theorem puts_byt {C : Col} (h : Valid C) (hd : C.dict.length ≤ 1000) (hI : ∀ v ∈ C.dict, Wd.V1 v) (hi : Bt.InR 8 C.ids) : Nm.Byt (puts C) := by
  intro x hx
  unfold puts at hx
  rcases List.mem_append.1 hx with hx | hx
  · rcases List.mem_append.1 hx with hx | hx
    · rcases List.mem_append.1 hx with hx | hx
      · exact Nm.vd_byt C.n h.n0 (by have := h.n1; omega) x hx
      · exact Nm.vd_byt (C.dict.length : Int) (by omega) (by omega) x hx
    · unfold putD at hx
      obtain ⟨v, hv, hx⟩ := List.mem_flatMap.1 hx
      rcases List.mem_cons.1 hx with rfl | hx
      · have := Cx.may_kind (h.ris.1 v hv)
        omega
      · have hb := bounds_i64 (hI v hv).w1
        exact Va.put_byt (h.ris.1 v hv) hb.1 hb.2 x hx
  · have := hi x hx
    rw [show (2 : Int) ^ 8 = 256 by decide] at this
    omega
end Co
namespace Lw
open Va (Vl May ord null)
open Sc (tr tr_yes tr_no tr_iff)
open Co Cx
set_option maxRecDepth 100000 in
set_option maxHeartbeats 8000000 in
theorem columnBack_walk (A : Option Addr) (n c : Nat) (l : List Vl) (E : Option Addr) (p q : Nat) (more : List Int) (w : World) (hV : Wd.Vs w A n c l) (hE : Wd.Sl w .u8 E p q more) (fE : Wd.Fits .u8 more) (hT : Bi.Tab w) :
    Calls Tryd.prog 4 #[.slice A n c, .slice E p q] w fun e w' => e = .returned (.bool true) ∧ Below w.heap.size w w' := by
  obtain ⟨i0, hi, hz0, hz1, hz2⟩ := info_parts info_y
  have HV := Lib.hid hV
  have HE := Lib.hid hE
  have HT := Lib.hid hT
  have HF := Lib.hid fE
  have Hp := Lib.hid hE.len
  have hpc := hE.cap
  have hpm := hE.max
  unfold maxLen at hpm
  obtain ⟨f, hf⟩ : ∃ f, f = tr (FewC l) := ⟨_, rfl⟩
  have Hf := Lib.hid hf
  clear hf hV hT hE fE
  go_enter Tryd.func4, Tryd.ntmps4
  go_wp2_with fail
  refine (Cx.awake_any w HT.out).mono ?_
  rintro e w1 ⟨rfl, hb1⟩
  have Cf := few_any A n c l w1 (HV.out.below hb1)
  rw [← Hf.out] at Cf
  have CF := Lib.hid Cf
  clear Cf
  go_wp2_with fail
  refine CF.out.mono ?_
  rintro e w1' ⟨rfl, hq⟩
  have hq' := hq.symm
  clear hq
  subst hq'
  clear CF
  cases f with
  | false =>
    go_wp2_with fail
    go_ret
    exact ⟨rfl, hb1⟩
  | true =>
  by_cases h100 : 100 < p
  · have g : (100 : Int) < (p : Int) := by omega
    go_wp2_with fail
    go_ret
    exact ⟨rfl, hb1⟩
  have g100 : ¬ (100 : Int) < (p : Int) := by omega
  have hF := tr_iff.1 Hf.out.symm
  have hs := few_size hF
  have hl4 : l.length ≤ 4096 := by have := hF.1; omega
  have C1 := cbuild_any A n c l w1 (HV.out.below hb1) hs
  have Hb1 := Lib.hid hb1
  clear hb1
  by_cases hm : ∀ v ∈ l, May v
  case neg =>
    rw [build_bad hl4 hm] at C1
    have C1' := Lib.hid C1
    clear C1 hm hs hF
    go_wp2_with fail
    refine C1'.out.mono ?_
    rintro e w2 ⟨A1, n1, c1, B1, m1, d1, he, hCl, hB2⟩
    replace he : e = .returned (.tuple #[.agg #[.int .i64 0, .slice A1 n1 c1, .slice B1 m1 d1], .int .i64 1]) := he
    subst he
    have Hb2 := Lib.hid (Hb1.out.trans (hB2.mono Hb1.out.size))
    have x2 := Cb.new w2 0 A1 n1 c1 B1 m1 d1
    have g0 := x2.c0
    go_wp2_with fail
    go_ret
    exact ⟨rfl, Hb2.out.alloc Hb2.out.size _⟩
  have hdl : (dct l).length ≤ 1000 := by have := dct_len (l := l); have := hF.1; omega
  obtain ⟨C, hC⟩ : ∃ C, C = (build l).1 := ⟨_, rfl⟩
  have hR : build l = (C, 0) := by rw [hC, build_ok hl4 hm]
  have hvC : Valid C := by rw [hC]; exact valid_build hl4 hm
  have hval : values C = l := by rw [hC]; exact values_build hl4 hm
  have hCd : C.dict.length ≤ 1000 := by rw [hC, build_ok hl4 hm]; exact hdl
  rw [hR] at C1
  have C1' := Lib.hid C1
  have HvC := Lib.hid hvC
  have Hval := Lib.hid hval
  have HCd := Lib.hid hCd
  obtain ⟨N, hN⟩ : ∃ N, N = C.n := ⟨_, rfl⟩
  have HN := Lib.hid hN
  obtain ⟨P, hP⟩ : ∃ P, P = (puts C).length := ⟨_, rfl⟩
  have HP := Lib.hid hP
  have hP15 : P ≤ 150000 := by rw [hP]; exact puts_len hvC hCd
  clear C1 hs hF hC hR hvC hval hdl hm hN hP hCd
  go_wp2_with fail
  refine C1'.out.mono ?_
  rintro e w2 ⟨A1, n1, c1, B1, m1, d1, he, hCl, hB2⟩
  replace he : e = .returned (.tuple #[.agg #[.int .i64 N, .slice A1 n1 c1, .slice B1 m1 d1], .int .i64 0]) := by rw [HN.out]; exact he
  subst he
  have hCl' : Cl w2 A1 n1 c1 B1 m1 d1 C := hCl
  have hn1 : n1 ≤ 1000 := by rw [hCl'.dict.len]; exact HCd.out
  have hm1 : m1 ≤ 1000000 := by
    obtain ⟨N', W', _, _, hW, hN4, hil, _⟩ := Bc.unE_inv HvC.out.un0
    have h4 := Nat.mul_le_mul hN4 hW
    rw [hCl'.ids.len]
    omega
  have HV1 := Lib.hid (show ∀ v ∈ C.dict, Wd.V1 v from fun v hv => by
    obtain ⟨j, hj, rfl⟩ := List.getElem_of_mem hv
    obtain ⟨_, _, _, _, _, h1⟩ := hCl'.dict.at_ j hj
    simpa [List.getD, hj] using h1)
  have x2 := Cb.new w2 N A1 n1 c1 B1 m1 d1
  have hk2 := (Below.refl w2.heap.size w2).alloc (Nat.le_refl _) (.cells #[.int .i64 N, .slice A1 n1 c1, .slice B1 m1 d1] 27)
  have hb2 := Hb1.out.trans ((hB2.trans (hk2.mono hB2.size)).mono Hb1.out.size)
  have hCl2 := hCl'.below hk2
  obtain ⟨wa, hwa⟩ : ∃ wa, wa = w2.alloc (.cells #[.int .i64 N, .slice A1 n1 c1, .slice B1 m1 d1] 27) := ⟨_, rfl⟩
  obtain ⟨b, hbq⟩ : ∃ b, b = w2.heap.size := ⟨_, rfl⟩
  rw [← hwa] at x2 hb2 hCl2
  rw [← hbq] at x2
  have Hwa := Lib.hid hwa
  have Hbq := Lib.hid hbq
  have HCl2 := Lib.hid hCl2
  have Hb2 := Lib.hid hb2
  have g0 := x2.c0
  have g1 := x2.c1
  have g2 := x2.c2
  have Cv := values_any A1 n1 c1 B1 m1 d1 C wa hCl2 hn1 hm1
  rw [Hval.out, ← HN.out] at Cv
  have CV := Lib.hid Cv
  clear hB2 hk2 hb2 hCl hCl' hCl2 hwa hbq C1' Cv
  go_wp2_with fail
  rw [← Hwa.out, ← Hbq.out]
  go_wp2_with fail
  refine CV.out.mono ?_
  rintro e w3 ⟨A3, n3, c3, rfl, hV3, hB3⟩
  have Cs := Sx.sameV_any A3 n3 c3 l A n c l w3 hV3 (HV.out.below (Hb2.out.trans (hB3.mono Hb2.out.size)))
  rw [tr_yes rfl] at Cs
  have CS := Lib.hid Cs
  have y3 := x2.below x2.lt hB3
  have Hb3 := Lib.hid (Hb2.out.trans (hB3.mono Hb2.out.size))
  have HCl3 := Lib.hid (HCl2.out.below hB3)
  clear g0 g1 g2 CV Cs hV3 hB3
  go_wp2_with fail
  refine CS.out.mono ?_
  rintro e w4 ⟨rfl, hB4⟩
  have y4 := y3.below y3.lt hB4
  have Hb4 := Lib.hid (Hb3.out.trans (hB4.mono Hb3.out.size))
  have HCl4 := Lib.hid (HCl3.out.below hB4)
  have Cp := cput_any A1 n1 c1 B1 m1 d1 C w4 HCl4.out hn1 hm1
  rw [put_yes HvC.out, ← HN.out] at Cp
  have CP := Lib.hid Cp
  have g0 := y4.c0
  have g1 := y4.c1
  have g2 := y4.c2
  clear Cp hB4 CS y3
  go_wp2_with fail
  refine CP.out.mono ?_
  rintro e w5 ⟨A5, n5, c5, he, hS5, hB5⟩
  replace he : e = .returned (.tuple #[.slice A5 n5 c5, .int .i64 0]) := he
  subst he
  replace hS5 : Wd.Sl w5 .u8 A5 n5 c5 (puts C) := hS5
  have y5 := y4.below y4.lt hB5
  have Hb5 := Lib.hid (Hb4.out.trans (hB5.mono Hb4.out.size))
  have HCl5 := Lib.hid (HCl4.out.below hB5)
  obtain rfl : n5 = P := by rw [HP.out]; exact hS5.len
  have hcap5 := hS5.cap
  have hmx5 := hS5.max
  unfold maxLen at hmx5
  have HS5 := Lib.hid hS5
  have hpl : (puts C).length ≤ 150000 := by rw [← HP.out]; exact hP15
  have Hpl := Lib.hid hpl
  clear g0 g1 g2 hB5 CP y4 hS5 hpl
  have hE5 := HE.out.below Hb5.out
  have HE5 := Lib.hid hE5
  clear hE5
  have hz5 := Nat.le_refl w5.heap.size
  go_wp2_with (first
    | (at_builtin; refine Wd.wpList_app _ rfl (.const (.slice none 0 0)) (.tmp 55) 25 rfl w5.heap.size 5 i0 _ .u8 1 Tryd.underlying25 hi hz0 hz1 hz2 rfl (.slice none 0 0) [] rfl (World.ownsRow_nil _ _ _ _) _ A5 n5 c5 (puts C) rfl HS5.out.len HS5.out.nil HS5.out.rd (by simp; have := Hpl.out; omega) (by simp; have := Hpl.out; unfold maxLen; omega) hz5 ?_; intro v6 w6 hO6 hg6; have hb6 : Below w5.heap.size w5 w6 := (Below.refl _ _).grown hg6 hz5 (by simp [Value.ownBlock]); have hz6 := hb6.size; rw [List.nil_append] at hO6)
    | (at_builtin; refine Wd.wpList_app _ rfl (.tmp 56) (.tmp 57) 25 rfl w5.heap.size 5 i0 _ .u8 1 Tryd.underlying25 hi hz0 hz1 hz2 rfl v6 (puts C) rfl hO6 _ E p q more rfl (HE5.out.below hb6).len (HE5.out.below hb6).nil (HE5.out.below hb6).rd (by have := Hpl.out; have := Hp.out; omega) (by unfold maxLen; have := Hpl.out; have := Hp.out; omega) hz6 ?_; intro v7 w7 hO7 hg7; have hb7 : Below w5.heap.size w5 w7 := hb6.grown hg7 hz6 (fun g hg => (World.ownsRow.lt hO6 g hg).1)))
  obtain ⟨A7, n7, c7, rfl, hS7⟩ := Wd.Sl.of_own hO7
  have y7 := y5.below y5.lt hb7
  have Hb7 := Lib.hid (Hb5.out.trans (hb7.mono Hb5.out.size))
  have HCl7 := Lib.hid (HCl5.out.below hb7)
  have hn7 : n7 ≤ 200000 := by rw [hS7.len, List.length_append]; have := Hpl.out; have := Hp.out; omega
  have hby : Nm.Byt (puts C ++ more) := fun x hx => by
    rcases List.mem_append.1 hx with hx | hx
    · exact puts_byt HvC.out HCd.out HV1.out HCl7.out.byt x hx
    · have := HF.out x hx
      simpa [Lit.wf, IntKind.min, IntKind.max, IntKind.signed, IntKind.bits] using this
  have Cg := cget_ok A7 n7 c7 C more w7 hS7 hby hn7 HvC.out HCd.out HV1.out
  rw [← HP.out] at Cg
  have CG := Lib.hid Cg
  clear hO6 hg6 hb6 hz6 hO7 hg7 hb7 hz5 hS7 hby Cg y5 hn7
  refine CG.out.mono ?_
  rintro e w8 ⟨A8, n8, c8, B8, m8, d8, he, hCl8, hB8⟩
  replace he : e = .returned (.tuple #[.agg #[.int .i64 N, .slice A8 n8 c8, .slice B8 m8 d8], .int .i64 (n5 : Int), .int .i64 0]) := by rw [HN.out]; exact he
  subst he
  have y8 := y7.below y7.lt hB8
  have x8 := Cb.new w8 N A8 n8 c8 B8 m8 d8
  have hk8 := (Below.refl w8.heap.size w8).alloc (Nat.le_refl _) (.cells #[.int .i64 N, .slice A8 n8 c8, .slice B8 m8 d8] 27)
  have y9 := y8.below y8.lt hk8
  have hbk := hB8.trans (hk8.mono hB8.size)
  have Hb9 := Lib.hid (Hb7.out.trans (hbk.mono Hb7.out.size))
  have HCl9 := Lib.hid (HCl7.out.below hbk)
  have Cs := sameC_any A1 n1 c1 B1 m1 d1 C A8 n8 c8 B8 m8 d8 C _ HCl9.out (hCl8.below hk8)
  rw [tr_yes rfl, ← HN.out] at Cs
  have CS := Lib.hid Cs
  have hlt8 := y8.lt
  have q0 := y8.c0
  have q1 := y8.c1
  have q2 := y8.c2
  have g0 := y9.c0
  have g1 := y9.c1
  have g2 := y9.c2
  have k0 := x8.c0
  have k1 := x8.c1
  have k2 := x8.c2
  clear Cs hB8 hk8 hbk hCl8 y7 y8 CG
  go_wp2_with fail
  refine CS.out.mono ?_
  rintro e w10 ⟨rfl, hB10⟩
  have y10 := y9.below y9.lt hB10
  have Hb10 := Lib.hid (Hb9.out.trans (hB10.mono Hb9.out.size))
  have Cm := cmay_any A1 n1 c1 B1 m1 d1 C w10 (HCl9.out.below hB10) hn1 hm1
  rw [tr_yes HvC.out, ← HN.out] at Cm
  have CM := Lib.hid Cm
  clear g0 g1 g2 k0 k1 k2 q0 q1 q2 Cm CS hB10
  have g0 := y10.c0
  have g1 := y10.c1
  have g2 := y10.c2
  go_wp2_with fail
  refine CM.out.mono ?_
  rintro e w11 ⟨rfl, hB11⟩
  have Hb11 := Lib.hid (Hb10.out.trans (hB11.mono Hb10.out.size))
  go_wp2_with fail
  go_ret
  exact ⟨rfl, Hb11.out⟩
theorem columnBack_says (A : Option Addr) (n c : Nat) (l : List Vl) (E : Option Addr) (p q : Nat) (more : List Int) (w : World) (hV : Wd.Vs w A n c l) (hE : Wd.Sl w .u8 E p q more) (fE : Wd.Fits .u8 more) (hL : laidMetH Tryd.prog Bw.ls w) :
    Calls Tryd.prog 4 #[.slice A n c, .slice E p q] w fun e w' => e = .returned (.bool true) ∧ Below w.heap.size w w' :=
  columnBack_walk A n c l E p q more w hV hE fE (Bw.tab_of_laid hL)
end Lw
end Go.Proofs.YtnhgijlhnamolaaDoor
