/- The walk of the statement BitsetLaws of layer 9. -/
import Derived.Test.YtgmjafammdkgfaaDoorBsIfc
import Derived.Test.YtgmjafammdkgfaaDoorBsLen
import Derived.Test.YtgmjafammdkgfaaDoorRegTake
namespace Go.Proofs.YtgmjafammdkgfaaDoor
set_option maxRecDepth 20000
open Go.RowKit
namespace Lw
open Bi Bs Bx
variable {S : World → Option Addr → Nat → Nat → List Int → Prop}
set_option maxRecDepth 100000 in
set_option maxHeartbeats 16000000 in
theorem bitsetLaws_walk (I : Ifc S) (Aa : Option Addr) (na ca : Nat) (la : List Int) (Ab : Option Addr) (nb cb : Nat) (lb : List Int) (Ac : Option Addr) (nc cc : Nat) (lc : List Int) (n : Int) (w : World) (hSa : Wd.Sl w .i64 Aa na ca la) (_fa : Wd.Fits .i64 la) (hSb : Wd.Sl w .i64 Ab nb cb lb) (_fb : Wd.Fits .i64 lb) (hSc : Wd.Sl w .i64 Ac nc cc lc) (_fc : Wd.Fits .i64 lc)
    (n0 : -9223372036854775808 ≤ n) (n1 : n ≤ 9223372036854775807) (hTab : Tab w) :
    Calls Tryd.prog 4 #[.slice Aa na ca, .slice Ab nb cb, .slice Ac nc cc, .int .i64 n] w fun e w' => e = .returned (.bool true) ∧ Below w.heap.size w w' := by
  have Ca := Lib.hid (awake_any I w hTab)
  have Ha := Lib.hid hSa
  have Hb := Lib.hid hSb
  have Hc := Lib.hid hSc
  have In := Lib.hid (show I64 n from ⟨n0, n1⟩)
  clear hSa hSb hSc hTab
  by_cases h1 : 60 < na
  · have g1 : (60 : Int) < na := by omega
    go_enter Tryd.func4, Tryd.ntmps4
    go_wp2_with fail
    refine (Ca.out).mono ?_
    rintro e w1 ⟨rfl, hb1⟩
    go_wp2_with fail
    go_ret
    exact ⟨rfl, hb1⟩
  by_cases h2 : 60 < nb
  · have g1 : ¬ (60 : Int) < na := by omega
    have g2 : (60 : Int) < nb := by omega
    go_enter Tryd.func4, Tryd.ntmps4
    go_wp2_with fail
    refine (Ca.out).mono ?_
    rintro e w1 ⟨rfl, hb1⟩
    go_wp2_with fail
    go_ret
    exact ⟨rfl, hb1⟩
  by_cases h3 : 60 < nc
  · have g1 : ¬ (60 : Int) < na := by omega
    have g2 : ¬ (60 : Int) < nb := by omega
    have g3 : (60 : Int) < nc := by omega
    go_enter Tryd.func4, Tryd.ntmps4
    go_wp2_with fail
    refine (Ca.out).mono ?_
    rintro e w1 ⟨rfl, hb1⟩
    go_wp2_with fail
    go_ret
    exact ⟨rfl, hb1⟩
  have g1 : ¬ (60 : Int) < na := by omega
  have g2 : ¬ (60 : Int) < nb := by omega
  have g3 : ¬ (60 : Int) < nc := by omega
  have na60 : na ≤ 60 := by omega
  have nb60 : nb ≤ 60 := by omega
  have nc60 : nc ≤ 60 := by omega
  have Ka := Lib.hid fun w' (hb : Below w.heap.size w w') => I.of_ Aa na ca la w' (Ha.out.below hb) (by omega)
  have Kb := Lib.hid fun w' (hb : Below w.heap.size w w') => I.of_ Ab nb cb lb w' (Hb.out.below hb) (by omega)
  have Kc := Lib.hid fun w' (hb : Below w.heap.size w w') => I.of_ Ac nc cc lc w' (Hc.out.below hb) (by omega)
  have HX60 := Lib.hid (show (ofL la).length ≤ 60 from Nat.le_trans (of_len la) (by rw [← Ha.out.len]; exact na60))
  have HY60 := Lib.hid (show (ofL lb).length ≤ 60 from Nat.le_trans (of_len lb) (by rw [← Hb.out.len]; exact nb60))
  have OX := Lib.hid (of_ok la)
  have OY := Lib.hid (of_ok lb)
  have OZ := Lib.hid (of_ok lc)
  generalize ofL la = X at *
  generalize ofL lb = Y at *
  generalize ofL lc = Z at *
  clear na60 nb60 nc60 h1 h2 h3
  go_enter Tryd.func4, Tryd.ntmps4
  go_wp2_with fail
  refine (Ca.out).mono ?_
  rintro e w1 ⟨rfl, hb1⟩
  go_wp2_with fail
  refine (Ka.out w1 hb1).mono ?_
  rintro e w2 ⟨A, sn, sc, rfl, hS2, hB2⟩
  have hb2 := hb1.trans (hB2.mono hb1.size)
  have hx2 := (Below.refl w2.heap.size w2).alloc (Nat.le_refl _) (.cells #[.slice A sn sc] 27)
  have hS3 := I.below hS2 hx2
  have cs := box1 w2 A sn sc
  have hb3 := hb2.trans (hx2.mono hb2.size)
  have hls : w2.heap.size < (w2.alloc (.cells #[.slice A sn sc] 27)).heap.size := by simp
  clear hB2 hS2 hb2 hx2 hb1 Ka
  go_wp2_with fail
  generalize w2.alloc (.cells #[.slice A sn sc] 27) = w3 at *
  generalize w2.heap.size = Bs at *
  refine (Kb.out w3 hb3).mono ?_
  rintro e w4 ⟨B, tn, tc, rfl, hT4, hB4⟩
  have hb4 := hb3.trans (hB4.mono hb3.size)
  have hx5 := (Below.refl w4.heap.size w4).alloc (Nat.le_refl _) (.cells #[.slice B tn tc] 27)
  have h35 := hB4.trans (hx5.mono hB4.size)
  have hT5 := I.below hT4 hx5
  have hS5 := I.below hS3 h35
  have ct := box1 w4 B tn tc
  have cs5 := (h35.cell (p := ⟨Bs, 0, none⟩) hls).trans cs
  have hls5 := Nat.lt_of_lt_of_le hls h35.size
  have hlt5 : w4.heap.size < (w4.alloc (.cells #[.slice B tn tc] 27)).heap.size := by simp
  have hb5 := hb4.trans (hx5.mono hb4.size)
  clear hB4 hS3 cs hls hx5 hT4 hb4 hb3 Kb h35
  go_wp2_with fail
  generalize w4.alloc (.cells #[.slice B tn tc] 27) = w5 at *
  generalize w4.heap.size = Bt at *
  refine (Kc.out w5 hb5).mono ?_
  rintro e w6 ⟨D, un, uc, rfl, hU6, hB6⟩
  have hb6 := hb5.trans (hB6.mono hb5.size)
  have hx7 := (Below.refl w6.heap.size w6).alloc (Nat.le_refl _) (.cells #[.slice D un uc] 27)
  have h57 := hB6.trans (hx7.mono hB6.size)
  have HS := Lib.hid (I.below hS5 h57)
  have HT := Lib.hid (I.below hT5 h57)
  have HU := Lib.hid (I.below hU6 hx7)
  have Hcs := Lib.hid ((h57.cell (p := ⟨Bs, 0, none⟩) hls5).trans cs5)
  have Hct := Lib.hid ((h57.cell (p := ⟨Bt, 0, none⟩) hlt5).trans ct)
  have Hcu := Lib.hid (box1 w6 D un uc)
  have Hls := Lib.hid (Nat.lt_of_lt_of_le hls5 h57.size)
  have Hlt := Lib.hid (Nat.lt_of_lt_of_le hlt5 h57.size)
  have Hlu := Lib.hid (show w6.heap.size < (w6.alloc (.cells #[.slice D un uc] 27)).heap.size by simp)
  have Hb7 := Lib.hid (hb6.trans (hx7.mono hb6.size))
  clear Kc hB6 hb6 hb5 h57 hS5 hT5 hU6 cs5 ct hls5 hlt5 hx7 Ha Hb Hc Ca
  go_wp2_with fail
  generalize w6.alloc (.cells #[.slice D un uc] 27) = wb at *
  generalize w6.heap.size = Bu at *
  have hb := (Below.refl wb.heap.size wb).drew

  have hH : wb.drew.cell? ⟨Bs, 0, none⟩ = some (.slice A sn sc) ∧ wb.drew.cell? ⟨Bt, 0, none⟩ = some (.slice B tn tc) ∧ wb.drew.cell? ⟨Bu, 0, none⟩ = some (.slice D un uc) := ⟨(hb.cell (p := ⟨Bs, 0, none⟩) Hls.out).trans Hcs.out, (hb.cell (p := ⟨Bt, 0, none⟩) Hlt.out).trans Hct.out, (hb.cell (p := ⟨Bu, 0, none⟩) Hlu.out).trans Hcu.out⟩
  refine wp_region_any (by kernel_rfl) ?_
  refine wpAny_of_held (S := fun w' => w'.cell? ⟨Bs, 0, none⟩ = some (.slice A sn sc) ∧ w'.cell? ⟨Bt, 0, none⟩ = some (.slice B tn tc) ∧ w'.cell? ⟨Bu, 0, none⟩ = some (.slice D un uc)) _ _ _ _ ?_
  change wpAnyH _ _ _ _ _ 14 (Array.replicate 14 false) _ wb.drew
  refine Rt.take (i := 0) (d := 42) (v := (.agg #[.slice A sn sc])) rfl rfl (by kernel_rfl) (by kernel_rfl) (by kernel_rfl) (fun _ _ _ h => h) (Or.inl ⟨by rfl, ?_⟩) hH ?_
  · rintro w' ⟨s0, s1, s2⟩
    go_simp
  (try simp only [List.setIfInBounds_toArray, List.set_cons_zero, List.set_cons_succ])
  refine Rt.take (i := 1) (d := 43) (v := (.agg #[.slice B tn tc])) rfl rfl (by kernel_rfl) (by kernel_rfl) (by kernel_rfl) (fun _ _ _ h => h) (Or.inl ⟨by rfl, ?_⟩) hH ?_
  · rintro w' ⟨s0, s1, s2⟩
    go_simp
  (try simp only [List.setIfInBounds_toArray, List.set_cons_zero, List.set_cons_succ])
  refine Rt.take (i := 3) (d := 45) (v := (.int .i64 n)) rfl rfl (by kernel_rfl) (by kernel_rfl) (by kernel_rfl) (fun _ _ _ h => h) (Or.inl ⟨by rfl, ?_⟩) hH ?_
  · rintro w' ⟨s0, s1, s2⟩
    go_simp
  (try simp only [List.setIfInBounds_toArray, List.set_cons_zero, List.set_cons_succ])
  refine Rt.take (i := 5) (d := 47) (v := (.agg #[.slice A sn sc])) rfl rfl (by kernel_rfl) (by kernel_rfl) (by kernel_rfl) (fun _ _ _ h => h) (Or.inl ⟨by rfl, ?_⟩) hH ?_
  · rintro w' ⟨s0, s1, s2⟩
    go_simp
  (try simp only [List.setIfInBounds_toArray, List.set_cons_zero, List.set_cons_succ])
  refine Rt.take (i := 6) (d := 48) (v := (.int .i64 n)) rfl rfl (by kernel_rfl) (by kernel_rfl) (by kernel_rfl) (fun _ _ _ h => h) (Or.inl ⟨by rfl, ?_⟩) hH ?_
  · rintro w' ⟨s0, s1, s2⟩
    go_simp
  (try simp only [List.setIfInBounds_toArray, List.set_cons_zero, List.set_cons_succ])
  refine Rt.take (i := 8) (d := 50) (v := (.agg #[.slice B tn tc])) rfl rfl (by kernel_rfl) (by kernel_rfl) (by kernel_rfl) (fun _ _ _ h => h) (Or.inl ⟨by rfl, ?_⟩) hH ?_
  · rintro w' ⟨s0, s1, s2⟩
    go_simp
  (try simp only [List.setIfInBounds_toArray, List.set_cons_zero, List.set_cons_succ])
  refine Rt.take (i := 9) (d := 51) (v := (.int .i64 n)) rfl rfl (by kernel_rfl) (by kernel_rfl) (by kernel_rfl) (fun _ _ _ h => h) (Or.inl ⟨by rfl, ?_⟩) hH ?_
  · rintro w' ⟨s0, s1, s2⟩
    go_simp
  (try simp only [List.setIfInBounds_toArray, List.set_cons_zero, List.set_cons_succ])
  refine wpAnyH_ready (rs := [2]) (by kernel_rfl) (by simp) ?_
  refine AllReadyH.cons rfl (fun K hK => ?_) AllReadyH.nil
  go_simp
  refine (I.and_ (I.below HS.out hb) (I.below HT.out hb)).mono ?_
  rintro q v1 ⟨U1, un1, uc1, rfl, hU1, hV1⟩
  replace hb := hb.trans (hV1.mono hb.size)
  clear hH hV1
  have hH : v1.cell? ⟨Bs, 0, none⟩ = some (.slice A sn sc) ∧ v1.cell? ⟨Bt, 0, none⟩ = some (.slice B tn tc) ∧ v1.cell? ⟨Bu, 0, none⟩ = some (.slice D un uc) := ⟨(hb.cell (p := ⟨Bs, 0, none⟩) Hls.out).trans Hcs.out, (hb.cell (p := ⟨Bt, 0, none⟩) Hlt.out).trans Hct.out, (hb.cell (p := ⟨Bu, 0, none⟩) Hlu.out).trans Hcu.out⟩
  refine hK.out _ _ hH (fun _ => ?_)
  clear hK K
  (try simp only [Act.put, List.setIfInBounds_toArray, List.set_cons_zero, List.set_cons_succ])
  refine wpAnyH_ready (rs := [4]) (by kernel_rfl) (by simp) ?_
  refine AllReadyH.cons rfl (fun K hK => ?_) AllReadyH.nil
  go_simp
  refine (I.not_ hU1 n In.out).mono ?_
  rintro q v2 ⟨U2, un2, uc2, rfl, hU2, hV2⟩
  replace hU1 := I.below hU1 hV2
  replace hb := hb.trans (hV2.mono hb.size)
  clear hH hV2
  have hH : v2.cell? ⟨Bs, 0, none⟩ = some (.slice A sn sc) ∧ v2.cell? ⟨Bt, 0, none⟩ = some (.slice B tn tc) ∧ v2.cell? ⟨Bu, 0, none⟩ = some (.slice D un uc) := ⟨(hb.cell (p := ⟨Bs, 0, none⟩) Hls.out).trans Hcs.out, (hb.cell (p := ⟨Bt, 0, none⟩) Hlt.out).trans Hct.out, (hb.cell (p := ⟨Bu, 0, none⟩) Hlu.out).trans Hcu.out⟩
  refine hK.out _ _ hH (fun _ => ?_)
  clear hK K
  (try simp only [Act.put, List.setIfInBounds_toArray, List.set_cons_zero, List.set_cons_succ])
  refine wpAnyH_ready (rs := [7]) (by kernel_rfl) (by simp) ?_
  refine AllReadyH.cons rfl (fun K hK => ?_) AllReadyH.nil
  go_simp
  refine (I.not_ (I.below HS.out hb) n In.out).mono ?_
  rintro q v3 ⟨U3, un3, uc3, rfl, hU3, hV3⟩
  replace hU2 := I.below hU2 hV3
  replace hb := hb.trans (hV3.mono hb.size)
  clear hH hV3
  have hH : v3.cell? ⟨Bs, 0, none⟩ = some (.slice A sn sc) ∧ v3.cell? ⟨Bt, 0, none⟩ = some (.slice B tn tc) ∧ v3.cell? ⟨Bu, 0, none⟩ = some (.slice D un uc) := ⟨(hb.cell (p := ⟨Bs, 0, none⟩) Hls.out).trans Hcs.out, (hb.cell (p := ⟨Bt, 0, none⟩) Hlt.out).trans Hct.out, (hb.cell (p := ⟨Bu, 0, none⟩) Hlu.out).trans Hcu.out⟩
  refine hK.out _ _ hH (fun _ => ?_)
  clear hK K
  (try simp only [Act.put, List.setIfInBounds_toArray, List.set_cons_zero, List.set_cons_succ])
  refine wpAnyH_ready (rs := [10]) (by kernel_rfl) (by simp) ?_
  refine AllReadyH.cons rfl (fun K hK => ?_) AllReadyH.nil
  go_simp
  refine (I.not_ (I.below HT.out hb) n In.out).mono ?_
  rintro q v4 ⟨U4, un4, uc4, rfl, hU4, hV4⟩
  replace hU2 := I.below hU2 hV4
  replace hU3 := I.below hU3 hV4
  replace hb := hb.trans (hV4.mono hb.size)
  clear hH hV4
  have hH : v4.cell? ⟨Bs, 0, none⟩ = some (.slice A sn sc) ∧ v4.cell? ⟨Bt, 0, none⟩ = some (.slice B tn tc) ∧ v4.cell? ⟨Bu, 0, none⟩ = some (.slice D un uc) := ⟨(hb.cell (p := ⟨Bs, 0, none⟩) Hls.out).trans Hcs.out, (hb.cell (p := ⟨Bt, 0, none⟩) Hlt.out).trans Hct.out, (hb.cell (p := ⟨Bu, 0, none⟩) Hlu.out).trans Hcu.out⟩
  refine hK.out _ _ hH (fun _ => ?_)
  clear hK K
  (try simp only [Act.put, List.setIfInBounds_toArray, List.set_cons_zero, List.set_cons_succ])
  refine wpAnyH_ready (rs := [11]) (by kernel_rfl) (by simp) ?_
  refine AllReadyH.cons rfl (fun K hK => ?_) AllReadyH.nil
  go_simp
  refine (I.or_ hU3 hU4).mono ?_
  rintro q v5 ⟨U5, un5, uc5, rfl, hU5, hV5⟩
  replace hU2 := I.below hU2 hV5
  replace hU3 := I.below hU3 hV5
  replace hU4 := I.below hU4 hV5
  replace hb := hb.trans (hV5.mono hb.size)
  clear hH hV5
  have hH : v5.cell? ⟨Bs, 0, none⟩ = some (.slice A sn sc) ∧ v5.cell? ⟨Bt, 0, none⟩ = some (.slice B tn tc) ∧ v5.cell? ⟨Bu, 0, none⟩ = some (.slice D un uc) := ⟨(hb.cell (p := ⟨Bs, 0, none⟩) Hls.out).trans Hcs.out, (hb.cell (p := ⟨Bt, 0, none⟩) Hlt.out).trans Hct.out, (hb.cell (p := ⟨Bu, 0, none⟩) Hlu.out).trans Hcu.out⟩
  refine hK.out _ _ hH (fun _ => ?_)
  clear hK K
  (try simp only [Act.put, List.setIfInBounds_toArray, List.set_cons_zero, List.set_cons_succ])
  refine wpAnyH_ready (rs := [12]) (by kernel_rfl) (by simp) ?_
  refine AllReadyH.cons rfl (fun K hK => ?_) AllReadyH.nil
  go_simp
  refine ((by have := I.same_ hU2 hU5; rwa [decide_eq_true (not_and n)] at this : Calls Tryd.prog 28 _ _ fun e w'' => e = .returned (.bool true) ∧ Below _ _ w'')).mono ?_
  rintro q v6 ⟨rfl, hV6⟩
  replace hU2 := I.below hU2 hV6
  replace hU3 := I.below hU3 hV6
  replace hU4 := I.below hU4 hV6
  replace hU5 := I.below hU5 hV6
  replace hb := hb.trans (hV6.mono hb.size)
  clear hH hV6
  have hH : v6.cell? ⟨Bs, 0, none⟩ = some (.slice A sn sc) ∧ v6.cell? ⟨Bt, 0, none⟩ = some (.slice B tn tc) ∧ v6.cell? ⟨Bu, 0, none⟩ = some (.slice D un uc) := ⟨(hb.cell (p := ⟨Bs, 0, none⟩) Hls.out).trans Hcs.out, (hb.cell (p := ⟨Bt, 0, none⟩) Hlt.out).trans Hct.out, (hb.cell (p := ⟨Bu, 0, none⟩) Hlu.out).trans Hcu.out⟩
  refine hK.out _ _ hH (fun _ => ?_)
  clear hK K
  (try simp only [Act.put, List.setIfInBounds_toArray, List.set_cons_zero, List.set_cons_succ])
  refine Rt.take (i := 13) (d := 13) (v := .bool true) rfl rfl (by kernel_rfl) (by kernel_rfl) (by kernel_rfl) (fun _ _ _ h => h) (Or.inl ⟨by rfl, ?_⟩) hH ?_
  · rintro w' ⟨s0, s1, s2⟩
    go_simp
  (try simp only [List.setIfInBounds_toArray, List.set_cons_zero, List.set_cons_succ])
  refine wpAnyH_done (by kernel_rfl) ?_ _
  (try simp only [Exit.then])
  clear hU2 hU3 hU4 hU5
  clear hH
  replace hb := hb.drew
  go_wp2_with fail
  have hH : v6.drew.cell? ⟨Bs, 0, none⟩ = some (.slice A sn sc) ∧ v6.drew.cell? ⟨Bt, 0, none⟩ = some (.slice B tn tc) ∧ v6.drew.cell? ⟨Bu, 0, none⟩ = some (.slice D un uc) := ⟨(hb.cell (p := ⟨Bs, 0, none⟩) Hls.out).trans Hcs.out, (hb.cell (p := ⟨Bt, 0, none⟩) Hlt.out).trans Hct.out, (hb.cell (p := ⟨Bu, 0, none⟩) Hlu.out).trans Hcu.out⟩
  refine wp_region_any (by kernel_rfl) ?_
  refine wpAny_of_held (S := fun w' => w'.cell? ⟨Bs, 0, none⟩ = some (.slice A sn sc) ∧ w'.cell? ⟨Bt, 0, none⟩ = some (.slice B tn tc) ∧ w'.cell? ⟨Bu, 0, none⟩ = some (.slice D un uc)) _ _ _ _ ?_
  change wpAnyH _ _ _ _ _ 14 (Array.replicate 14 false) _ v6.drew
  refine Rt.take (i := 0) (d := 55) (v := (.agg #[.slice A sn sc])) rfl rfl (by kernel_rfl) (by kernel_rfl) (by kernel_rfl) (fun _ _ _ h => h) (Or.inl ⟨by rfl, ?_⟩) hH ?_
  · rintro w' ⟨s0, s1, s2⟩
    go_simp
  (try simp only [List.setIfInBounds_toArray, List.set_cons_zero, List.set_cons_succ])
  refine Rt.take (i := 1) (d := 56) (v := (.agg #[.slice B tn tc])) rfl rfl (by kernel_rfl) (by kernel_rfl) (by kernel_rfl) (fun _ _ _ h => h) (Or.inl ⟨by rfl, ?_⟩) hH ?_
  · rintro w' ⟨s0, s1, s2⟩
    go_simp
  (try simp only [List.setIfInBounds_toArray, List.set_cons_zero, List.set_cons_succ])
  refine Rt.take (i := 3) (d := 58) (v := (.int .i64 n)) rfl rfl (by kernel_rfl) (by kernel_rfl) (by kernel_rfl) (fun _ _ _ h => h) (Or.inl ⟨by rfl, ?_⟩) hH ?_
  · rintro w' ⟨s0, s1, s2⟩
    go_simp
  (try simp only [List.setIfInBounds_toArray, List.set_cons_zero, List.set_cons_succ])
  refine Rt.take (i := 5) (d := 60) (v := (.agg #[.slice A sn sc])) rfl rfl (by kernel_rfl) (by kernel_rfl) (by kernel_rfl) (fun _ _ _ h => h) (Or.inl ⟨by rfl, ?_⟩) hH ?_
  · rintro w' ⟨s0, s1, s2⟩
    go_simp
  (try simp only [List.setIfInBounds_toArray, List.set_cons_zero, List.set_cons_succ])
  refine Rt.take (i := 6) (d := 61) (v := (.int .i64 n)) rfl rfl (by kernel_rfl) (by kernel_rfl) (by kernel_rfl) (fun _ _ _ h => h) (Or.inl ⟨by rfl, ?_⟩) hH ?_
  · rintro w' ⟨s0, s1, s2⟩
    go_simp
  (try simp only [List.setIfInBounds_toArray, List.set_cons_zero, List.set_cons_succ])
  refine Rt.take (i := 8) (d := 63) (v := (.agg #[.slice B tn tc])) rfl rfl (by kernel_rfl) (by kernel_rfl) (by kernel_rfl) (fun _ _ _ h => h) (Or.inl ⟨by rfl, ?_⟩) hH ?_
  · rintro w' ⟨s0, s1, s2⟩
    go_simp
  (try simp only [List.setIfInBounds_toArray, List.set_cons_zero, List.set_cons_succ])
  refine Rt.take (i := 9) (d := 64) (v := (.int .i64 n)) rfl rfl (by kernel_rfl) (by kernel_rfl) (by kernel_rfl) (fun _ _ _ h => h) (Or.inl ⟨by rfl, ?_⟩) hH ?_
  · rintro w' ⟨s0, s1, s2⟩
    go_simp
  (try simp only [List.setIfInBounds_toArray, List.set_cons_zero, List.set_cons_succ])
  refine wpAnyH_ready (rs := [2]) (by kernel_rfl) (by simp) ?_
  refine AllReadyH.cons rfl (fun K hK => ?_) AllReadyH.nil
  go_simp
  refine (I.or_ (I.below HS.out hb) (I.below HT.out hb)).mono ?_
  rintro q v7 ⟨U7, un7, uc7, rfl, hU7, hV7⟩
  replace hb := hb.trans (hV7.mono hb.size)
  clear hH hV7
  have hH : v7.cell? ⟨Bs, 0, none⟩ = some (.slice A sn sc) ∧ v7.cell? ⟨Bt, 0, none⟩ = some (.slice B tn tc) ∧ v7.cell? ⟨Bu, 0, none⟩ = some (.slice D un uc) := ⟨(hb.cell (p := ⟨Bs, 0, none⟩) Hls.out).trans Hcs.out, (hb.cell (p := ⟨Bt, 0, none⟩) Hlt.out).trans Hct.out, (hb.cell (p := ⟨Bu, 0, none⟩) Hlu.out).trans Hcu.out⟩
  refine hK.out _ _ hH (fun _ => ?_)
  clear hK K
  (try simp only [Act.put, List.setIfInBounds_toArray, List.set_cons_zero, List.set_cons_succ])
  refine wpAnyH_ready (rs := [4]) (by kernel_rfl) (by simp) ?_
  refine AllReadyH.cons rfl (fun K hK => ?_) AllReadyH.nil
  go_simp
  refine (I.not_ hU7 n In.out).mono ?_
  rintro q v8 ⟨U8, un8, uc8, rfl, hU8, hV8⟩
  replace hU7 := I.below hU7 hV8
  replace hb := hb.trans (hV8.mono hb.size)
  clear hH hV8
  have hH : v8.cell? ⟨Bs, 0, none⟩ = some (.slice A sn sc) ∧ v8.cell? ⟨Bt, 0, none⟩ = some (.slice B tn tc) ∧ v8.cell? ⟨Bu, 0, none⟩ = some (.slice D un uc) := ⟨(hb.cell (p := ⟨Bs, 0, none⟩) Hls.out).trans Hcs.out, (hb.cell (p := ⟨Bt, 0, none⟩) Hlt.out).trans Hct.out, (hb.cell (p := ⟨Bu, 0, none⟩) Hlu.out).trans Hcu.out⟩
  refine hK.out _ _ hH (fun _ => ?_)
  clear hK K
  (try simp only [Act.put, List.setIfInBounds_toArray, List.set_cons_zero, List.set_cons_succ])
  refine wpAnyH_ready (rs := [7]) (by kernel_rfl) (by simp) ?_
  refine AllReadyH.cons rfl (fun K hK => ?_) AllReadyH.nil
  go_simp
  refine (I.not_ (I.below HS.out hb) n In.out).mono ?_
  rintro q v9 ⟨U9, un9, uc9, rfl, hU9, hV9⟩
  replace hU7 := I.below hU7 hV9
  replace hU8 := I.below hU8 hV9
  replace hb := hb.trans (hV9.mono hb.size)
  clear hH hV9
  have hH : v9.cell? ⟨Bs, 0, none⟩ = some (.slice A sn sc) ∧ v9.cell? ⟨Bt, 0, none⟩ = some (.slice B tn tc) ∧ v9.cell? ⟨Bu, 0, none⟩ = some (.slice D un uc) := ⟨(hb.cell (p := ⟨Bs, 0, none⟩) Hls.out).trans Hcs.out, (hb.cell (p := ⟨Bt, 0, none⟩) Hlt.out).trans Hct.out, (hb.cell (p := ⟨Bu, 0, none⟩) Hlu.out).trans Hcu.out⟩
  refine hK.out _ _ hH (fun _ => ?_)
  clear hK K
  (try simp only [Act.put, List.setIfInBounds_toArray, List.set_cons_zero, List.set_cons_succ])
  refine wpAnyH_ready (rs := [10]) (by kernel_rfl) (by simp) ?_
  refine AllReadyH.cons rfl (fun K hK => ?_) AllReadyH.nil
  go_simp
  refine (I.not_ (I.below HT.out hb) n In.out).mono ?_
  rintro q v10 ⟨U10, un10, uc10, rfl, hU10, hV10⟩
  replace hU7 := I.below hU7 hV10
  replace hU8 := I.below hU8 hV10
  replace hU9 := I.below hU9 hV10
  replace hb := hb.trans (hV10.mono hb.size)
  clear hH hV10
  have hH : v10.cell? ⟨Bs, 0, none⟩ = some (.slice A sn sc) ∧ v10.cell? ⟨Bt, 0, none⟩ = some (.slice B tn tc) ∧ v10.cell? ⟨Bu, 0, none⟩ = some (.slice D un uc) := ⟨(hb.cell (p := ⟨Bs, 0, none⟩) Hls.out).trans Hcs.out, (hb.cell (p := ⟨Bt, 0, none⟩) Hlt.out).trans Hct.out, (hb.cell (p := ⟨Bu, 0, none⟩) Hlu.out).trans Hcu.out⟩
  refine hK.out _ _ hH (fun _ => ?_)
  clear hK K
  (try simp only [Act.put, List.setIfInBounds_toArray, List.set_cons_zero, List.set_cons_succ])
  refine wpAnyH_ready (rs := [11]) (by kernel_rfl) (by simp) ?_
  refine AllReadyH.cons rfl (fun K hK => ?_) AllReadyH.nil
  go_simp
  refine (I.and_ hU9 hU10).mono ?_
  rintro q v11 ⟨U11, un11, uc11, rfl, hU11, hV11⟩
  replace hU7 := I.below hU7 hV11
  replace hU8 := I.below hU8 hV11
  replace hU9 := I.below hU9 hV11
  replace hU10 := I.below hU10 hV11
  replace hb := hb.trans (hV11.mono hb.size)
  clear hH hV11
  have hH : v11.cell? ⟨Bs, 0, none⟩ = some (.slice A sn sc) ∧ v11.cell? ⟨Bt, 0, none⟩ = some (.slice B tn tc) ∧ v11.cell? ⟨Bu, 0, none⟩ = some (.slice D un uc) := ⟨(hb.cell (p := ⟨Bs, 0, none⟩) Hls.out).trans Hcs.out, (hb.cell (p := ⟨Bt, 0, none⟩) Hlt.out).trans Hct.out, (hb.cell (p := ⟨Bu, 0, none⟩) Hlu.out).trans Hcu.out⟩
  refine hK.out _ _ hH (fun _ => ?_)
  clear hK K
  (try simp only [Act.put, List.setIfInBounds_toArray, List.set_cons_zero, List.set_cons_succ])
  refine wpAnyH_ready (rs := [12]) (by kernel_rfl) (by simp) ?_
  refine AllReadyH.cons rfl (fun K hK => ?_) AllReadyH.nil
  go_simp
  refine ((by have := I.same_ hU8 hU11; rwa [decide_eq_true (not_or OY.out n)] at this : Calls Tryd.prog 28 _ _ fun e w'' => e = .returned (.bool true) ∧ Below _ _ w'')).mono ?_
  rintro q v12 ⟨rfl, hV12⟩
  replace hU7 := I.below hU7 hV12
  replace hU8 := I.below hU8 hV12
  replace hU9 := I.below hU9 hV12
  replace hU10 := I.below hU10 hV12
  replace hU11 := I.below hU11 hV12
  replace hb := hb.trans (hV12.mono hb.size)
  clear hH hV12
  have hH : v12.cell? ⟨Bs, 0, none⟩ = some (.slice A sn sc) ∧ v12.cell? ⟨Bt, 0, none⟩ = some (.slice B tn tc) ∧ v12.cell? ⟨Bu, 0, none⟩ = some (.slice D un uc) := ⟨(hb.cell (p := ⟨Bs, 0, none⟩) Hls.out).trans Hcs.out, (hb.cell (p := ⟨Bt, 0, none⟩) Hlt.out).trans Hct.out, (hb.cell (p := ⟨Bu, 0, none⟩) Hlu.out).trans Hcu.out⟩
  refine hK.out _ _ hH (fun _ => ?_)
  clear hK K
  (try simp only [Act.put, List.setIfInBounds_toArray, List.set_cons_zero, List.set_cons_succ])
  refine Rt.take (i := 13) (d := 14) (v := .bool true) rfl rfl (by kernel_rfl) (by kernel_rfl) (by kernel_rfl) (fun _ _ _ h => h) (Or.inl ⟨by rfl, ?_⟩) hH ?_
  · rintro w' ⟨s0, s1, s2⟩
    go_simp
  (try simp only [List.setIfInBounds_toArray, List.set_cons_zero, List.set_cons_succ])
  refine wpAnyH_done (by kernel_rfl) ?_ _
  (try simp only [Exit.then])
  clear hU7 hU8 hU9 hU10 hU11
  clear hH
  replace hb := hb.drew
  go_wp2_with fail
  have hH : v12.drew.cell? ⟨Bs, 0, none⟩ = some (.slice A sn sc) ∧ v12.drew.cell? ⟨Bt, 0, none⟩ = some (.slice B tn tc) ∧ v12.drew.cell? ⟨Bu, 0, none⟩ = some (.slice D un uc) := ⟨(hb.cell (p := ⟨Bs, 0, none⟩) Hls.out).trans Hcs.out, (hb.cell (p := ⟨Bt, 0, none⟩) Hlt.out).trans Hct.out, (hb.cell (p := ⟨Bu, 0, none⟩) Hlu.out).trans Hcu.out⟩
  refine wp_region_any (by kernel_rfl) ?_
  refine wpAny_of_held (S := fun w' => w'.cell? ⟨Bs, 0, none⟩ = some (.slice A sn sc) ∧ w'.cell? ⟨Bt, 0, none⟩ = some (.slice B tn tc) ∧ w'.cell? ⟨Bu, 0, none⟩ = some (.slice D un uc)) _ _ _ _ ?_
  change wpAnyH _ _ _ _ _ 14 (Array.replicate 14 false) _ v12.drew
  refine Rt.take (i := 0) (d := 68) (v := (.agg #[.slice A sn sc])) rfl rfl (by kernel_rfl) (by kernel_rfl) (by kernel_rfl) (fun _ _ _ h => h) (Or.inl ⟨by rfl, ?_⟩) hH ?_
  · rintro w' ⟨s0, s1, s2⟩
    go_simp
  (try simp only [List.setIfInBounds_toArray, List.set_cons_zero, List.set_cons_succ])
  refine Rt.take (i := 1) (d := 69) (v := (.agg #[.slice B tn tc])) rfl rfl (by kernel_rfl) (by kernel_rfl) (by kernel_rfl) (fun _ _ _ h => h) (Or.inl ⟨by rfl, ?_⟩) hH ?_
  · rintro w' ⟨s0, s1, s2⟩
    go_simp
  (try simp only [List.setIfInBounds_toArray, List.set_cons_zero, List.set_cons_succ])
  refine Rt.take (i := 2) (d := 70) (v := (.agg #[.slice D un uc])) rfl rfl (by kernel_rfl) (by kernel_rfl) (by kernel_rfl) (fun _ _ _ h => h) (Or.inl ⟨by rfl, ?_⟩) hH ?_
  · rintro w' ⟨s0, s1, s2⟩
    go_simp
  (try simp only [List.setIfInBounds_toArray, List.set_cons_zero, List.set_cons_succ])
  refine Rt.take (i := 5) (d := 73) (v := (.agg #[.slice A sn sc])) rfl rfl (by kernel_rfl) (by kernel_rfl) (by kernel_rfl) (fun _ _ _ h => h) (Or.inl ⟨by rfl, ?_⟩) hH ?_
  · rintro w' ⟨s0, s1, s2⟩
    go_simp
  (try simp only [List.setIfInBounds_toArray, List.set_cons_zero, List.set_cons_succ])
  refine Rt.take (i := 6) (d := 74) (v := (.agg #[.slice B tn tc])) rfl rfl (by kernel_rfl) (by kernel_rfl) (by kernel_rfl) (fun _ _ _ h => h) (Or.inl ⟨by rfl, ?_⟩) hH ?_
  · rintro w' ⟨s0, s1, s2⟩
    go_simp
  (try simp only [List.setIfInBounds_toArray, List.set_cons_zero, List.set_cons_succ])
  refine Rt.take (i := 8) (d := 76) (v := (.agg #[.slice A sn sc])) rfl rfl (by kernel_rfl) (by kernel_rfl) (by kernel_rfl) (fun _ _ _ h => h) (Or.inl ⟨by rfl, ?_⟩) hH ?_
  · rintro w' ⟨s0, s1, s2⟩
    go_simp
  (try simp only [List.setIfInBounds_toArray, List.set_cons_zero, List.set_cons_succ])
  refine Rt.take (i := 9) (d := 77) (v := (.agg #[.slice D un uc])) rfl rfl (by kernel_rfl) (by kernel_rfl) (by kernel_rfl) (fun _ _ _ h => h) (Or.inl ⟨by rfl, ?_⟩) hH ?_
  · rintro w' ⟨s0, s1, s2⟩
    go_simp
  (try simp only [List.setIfInBounds_toArray, List.set_cons_zero, List.set_cons_succ])
  refine wpAnyH_ready (rs := [3]) (by kernel_rfl) (by simp) ?_
  refine AllReadyH.cons rfl (fun K hK => ?_) AllReadyH.nil
  go_simp
  refine (I.or_ (I.below HT.out hb) (I.below HU.out hb)).mono ?_
  rintro q v13 ⟨U13, un13, uc13, rfl, hU13, hV13⟩
  replace hb := hb.trans (hV13.mono hb.size)
  clear hH hV13
  have hH : v13.cell? ⟨Bs, 0, none⟩ = some (.slice A sn sc) ∧ v13.cell? ⟨Bt, 0, none⟩ = some (.slice B tn tc) ∧ v13.cell? ⟨Bu, 0, none⟩ = some (.slice D un uc) := ⟨(hb.cell (p := ⟨Bs, 0, none⟩) Hls.out).trans Hcs.out, (hb.cell (p := ⟨Bt, 0, none⟩) Hlt.out).trans Hct.out, (hb.cell (p := ⟨Bu, 0, none⟩) Hlu.out).trans Hcu.out⟩
  refine hK.out _ _ hH (fun _ => ?_)
  clear hK K
  (try simp only [Act.put, List.setIfInBounds_toArray, List.set_cons_zero, List.set_cons_succ])
  refine wpAnyH_ready (rs := [4]) (by kernel_rfl) (by simp) ?_
  refine AllReadyH.cons rfl (fun K hK => ?_) AllReadyH.nil
  go_simp
  refine (I.and_ (I.below HS.out hb) hU13).mono ?_
  rintro q v14 ⟨U14, un14, uc14, rfl, hU14, hV14⟩
  replace hU13 := I.below hU13 hV14
  replace hb := hb.trans (hV14.mono hb.size)
  clear hH hV14
  have hH : v14.cell? ⟨Bs, 0, none⟩ = some (.slice A sn sc) ∧ v14.cell? ⟨Bt, 0, none⟩ = some (.slice B tn tc) ∧ v14.cell? ⟨Bu, 0, none⟩ = some (.slice D un uc) := ⟨(hb.cell (p := ⟨Bs, 0, none⟩) Hls.out).trans Hcs.out, (hb.cell (p := ⟨Bt, 0, none⟩) Hlt.out).trans Hct.out, (hb.cell (p := ⟨Bu, 0, none⟩) Hlu.out).trans Hcu.out⟩
  refine hK.out _ _ hH (fun _ => ?_)
  clear hK K
  (try simp only [Act.put, List.setIfInBounds_toArray, List.set_cons_zero, List.set_cons_succ])
  refine wpAnyH_ready (rs := [7]) (by kernel_rfl) (by simp) ?_
  refine AllReadyH.cons rfl (fun K hK => ?_) AllReadyH.nil
  go_simp
  refine (I.and_ (I.below HS.out hb) (I.below HT.out hb)).mono ?_
  rintro q v15 ⟨U15, un15, uc15, rfl, hU15, hV15⟩
  replace hU13 := I.below hU13 hV15
  replace hU14 := I.below hU14 hV15
  replace hb := hb.trans (hV15.mono hb.size)
  clear hH hV15
  have hH : v15.cell? ⟨Bs, 0, none⟩ = some (.slice A sn sc) ∧ v15.cell? ⟨Bt, 0, none⟩ = some (.slice B tn tc) ∧ v15.cell? ⟨Bu, 0, none⟩ = some (.slice D un uc) := ⟨(hb.cell (p := ⟨Bs, 0, none⟩) Hls.out).trans Hcs.out, (hb.cell (p := ⟨Bt, 0, none⟩) Hlt.out).trans Hct.out, (hb.cell (p := ⟨Bu, 0, none⟩) Hlu.out).trans Hcu.out⟩
  refine hK.out _ _ hH (fun _ => ?_)
  clear hK K
  (try simp only [Act.put, List.setIfInBounds_toArray, List.set_cons_zero, List.set_cons_succ])
  refine wpAnyH_ready (rs := [10]) (by kernel_rfl) (by simp) ?_
  refine AllReadyH.cons rfl (fun K hK => ?_) AllReadyH.nil
  go_simp
  refine (I.and_ (I.below HS.out hb) (I.below HU.out hb)).mono ?_
  rintro q v16 ⟨U16, un16, uc16, rfl, hU16, hV16⟩
  replace hU13 := I.below hU13 hV16
  replace hU14 := I.below hU14 hV16
  replace hU15 := I.below hU15 hV16
  replace hb := hb.trans (hV16.mono hb.size)
  clear hH hV16
  have hH : v16.cell? ⟨Bs, 0, none⟩ = some (.slice A sn sc) ∧ v16.cell? ⟨Bt, 0, none⟩ = some (.slice B tn tc) ∧ v16.cell? ⟨Bu, 0, none⟩ = some (.slice D un uc) := ⟨(hb.cell (p := ⟨Bs, 0, none⟩) Hls.out).trans Hcs.out, (hb.cell (p := ⟨Bt, 0, none⟩) Hlt.out).trans Hct.out, (hb.cell (p := ⟨Bu, 0, none⟩) Hlu.out).trans Hcu.out⟩
  refine hK.out _ _ hH (fun _ => ?_)
  clear hK K
  (try simp only [Act.put, List.setIfInBounds_toArray, List.set_cons_zero, List.set_cons_succ])
  refine wpAnyH_ready (rs := [11]) (by kernel_rfl) (by simp) ?_
  refine AllReadyH.cons rfl (fun K hK => ?_) AllReadyH.nil
  go_simp
  refine (I.or_ hU15 hU16).mono ?_
  rintro q v17 ⟨U17, un17, uc17, rfl, hU17, hV17⟩
  replace hU13 := I.below hU13 hV17
  replace hU14 := I.below hU14 hV17
  replace hU15 := I.below hU15 hV17
  replace hU16 := I.below hU16 hV17
  replace hb := hb.trans (hV17.mono hb.size)
  clear hH hV17
  have hH : v17.cell? ⟨Bs, 0, none⟩ = some (.slice A sn sc) ∧ v17.cell? ⟨Bt, 0, none⟩ = some (.slice B tn tc) ∧ v17.cell? ⟨Bu, 0, none⟩ = some (.slice D un uc) := ⟨(hb.cell (p := ⟨Bs, 0, none⟩) Hls.out).trans Hcs.out, (hb.cell (p := ⟨Bt, 0, none⟩) Hlt.out).trans Hct.out, (hb.cell (p := ⟨Bu, 0, none⟩) Hlu.out).trans Hcu.out⟩
  refine hK.out _ _ hH (fun _ => ?_)
  clear hK K
  (try simp only [Act.put, List.setIfInBounds_toArray, List.set_cons_zero, List.set_cons_succ])
  refine wpAnyH_ready (rs := [12]) (by kernel_rfl) (by simp) ?_
  refine AllReadyH.cons rfl (fun K hK => ?_) AllReadyH.nil
  go_simp
  refine ((by have := I.same_ hU14 hU17; rwa [decide_eq_true (spread OX.out OZ.out)] at this : Calls Tryd.prog 28 _ _ fun e w'' => e = .returned (.bool true) ∧ Below _ _ w'')).mono ?_
  rintro q v18 ⟨rfl, hV18⟩
  replace hU13 := I.below hU13 hV18
  replace hU14 := I.below hU14 hV18
  replace hU15 := I.below hU15 hV18
  replace hU16 := I.below hU16 hV18
  replace hU17 := I.below hU17 hV18
  replace hb := hb.trans (hV18.mono hb.size)
  clear hH hV18
  have hH : v18.cell? ⟨Bs, 0, none⟩ = some (.slice A sn sc) ∧ v18.cell? ⟨Bt, 0, none⟩ = some (.slice B tn tc) ∧ v18.cell? ⟨Bu, 0, none⟩ = some (.slice D un uc) := ⟨(hb.cell (p := ⟨Bs, 0, none⟩) Hls.out).trans Hcs.out, (hb.cell (p := ⟨Bt, 0, none⟩) Hlt.out).trans Hct.out, (hb.cell (p := ⟨Bu, 0, none⟩) Hlu.out).trans Hcu.out⟩
  refine hK.out _ _ hH (fun _ => ?_)
  clear hK K
  (try simp only [Act.put, List.setIfInBounds_toArray, List.set_cons_zero, List.set_cons_succ])
  refine Rt.take (i := 13) (d := 15) (v := .bool true) rfl rfl (by kernel_rfl) (by kernel_rfl) (by kernel_rfl) (fun _ _ _ h => h) (Or.inl ⟨by rfl, ?_⟩) hH ?_
  · rintro w' ⟨s0, s1, s2⟩
    go_simp
  (try simp only [List.setIfInBounds_toArray, List.set_cons_zero, List.set_cons_succ])
  refine wpAnyH_done (by kernel_rfl) ?_ _
  (try simp only [Exit.then])
  clear hU13 hU14 hU15 hU16 hU17
  clear hH
  replace hb := hb.drew
  go_wp2_with fail
  have hH : v18.drew.cell? ⟨Bs, 0, none⟩ = some (.slice A sn sc) ∧ v18.drew.cell? ⟨Bt, 0, none⟩ = some (.slice B tn tc) ∧ v18.drew.cell? ⟨Bu, 0, none⟩ = some (.slice D un uc) := ⟨(hb.cell (p := ⟨Bs, 0, none⟩) Hls.out).trans Hcs.out, (hb.cell (p := ⟨Bt, 0, none⟩) Hlt.out).trans Hct.out, (hb.cell (p := ⟨Bu, 0, none⟩) Hlu.out).trans Hcu.out⟩
  refine wp_region_any (by kernel_rfl) ?_
  refine wpAny_of_held (S := fun w' => w'.cell? ⟨Bs, 0, none⟩ = some (.slice A sn sc) ∧ w'.cell? ⟨Bt, 0, none⟩ = some (.slice B tn tc) ∧ w'.cell? ⟨Bu, 0, none⟩ = some (.slice D un uc)) _ _ _ _ ?_
  change wpAnyH _ _ _ _ _ 11 (Array.replicate 11 false) _ v18.drew
  refine Rt.take (i := 0) (d := 81) (v := (.agg #[.slice A sn sc])) rfl rfl (by kernel_rfl) (by kernel_rfl) (by kernel_rfl) (fun _ _ _ h => h) (Or.inl ⟨by rfl, ?_⟩) hH ?_
  · rintro w' ⟨s0, s1, s2⟩
    go_simp
  (try simp only [List.setIfInBounds_toArray, List.set_cons_zero, List.set_cons_succ])
  refine Rt.take (i := 1) (d := 82) (v := (.int .i64 n)) rfl rfl (by kernel_rfl) (by kernel_rfl) (by kernel_rfl) (fun _ _ _ h => h) (Or.inl ⟨by rfl, ?_⟩) hH ?_
  · rintro w' ⟨s0, s1, s2⟩
    go_simp
  (try simp only [List.setIfInBounds_toArray, List.set_cons_zero, List.set_cons_succ])
  refine Rt.take (i := 3) (d := 84) (v := (.int .i64 n)) rfl rfl (by kernel_rfl) (by kernel_rfl) (by kernel_rfl) (fun _ _ _ h => h) (Or.inl ⟨by rfl, ?_⟩) hH ?_
  · rintro w' ⟨s0, s1, s2⟩
    go_simp
  (try simp only [List.setIfInBounds_toArray, List.set_cons_zero, List.set_cons_succ])
  refine Rt.take (i := 5) (d := 86) (v := (.agg #[.slice A sn sc])) rfl rfl (by kernel_rfl) (by kernel_rfl) (by kernel_rfl) (fun _ _ _ h => h) (Or.inl ⟨by rfl, ?_⟩) hH ?_
  · rintro w' ⟨s0, s1, s2⟩
    go_simp
  (try simp only [List.setIfInBounds_toArray, List.set_cons_zero, List.set_cons_succ])
  refine Rt.take (i := 6) (d := 87) (v := (.int .i64 n)) rfl rfl (by kernel_rfl) (by kernel_rfl) (by kernel_rfl) (fun _ _ _ h => h) (Or.inl ⟨by rfl, ?_⟩) hH ?_
  · rintro w' ⟨s0, s1, s2⟩
    go_simp
  (try simp only [List.setIfInBounds_toArray, List.set_cons_zero, List.set_cons_succ])
  refine wpAnyH_ready (rs := [2]) (by kernel_rfl) (by simp) ?_
  refine AllReadyH.cons rfl (fun K hK => ?_) AllReadyH.nil
  go_simp
  refine (I.not_ (I.below HS.out hb) n In.out).mono ?_
  rintro q v19 ⟨U19, un19, uc19, rfl, hU19, hV19⟩
  replace hb := hb.trans (hV19.mono hb.size)
  clear hH hV19
  have hH : v19.cell? ⟨Bs, 0, none⟩ = some (.slice A sn sc) ∧ v19.cell? ⟨Bt, 0, none⟩ = some (.slice B tn tc) ∧ v19.cell? ⟨Bu, 0, none⟩ = some (.slice D un uc) := ⟨(hb.cell (p := ⟨Bs, 0, none⟩) Hls.out).trans Hcs.out, (hb.cell (p := ⟨Bt, 0, none⟩) Hlt.out).trans Hct.out, (hb.cell (p := ⟨Bu, 0, none⟩) Hlu.out).trans Hcu.out⟩
  refine hK.out _ _ hH (fun _ => ?_)
  clear hK K
  (try simp only [Act.put, List.setIfInBounds_toArray, List.set_cons_zero, List.set_cons_succ])
  refine wpAnyH_ready (rs := [4]) (by kernel_rfl) (by simp) ?_
  refine AllReadyH.cons rfl (fun K hK => ?_) AllReadyH.nil
  go_simp
  refine (I.not_ hU19 n In.out).mono ?_
  rintro q v20 ⟨U20, un20, uc20, rfl, hU20, hV20⟩
  replace hU19 := I.below hU19 hV20
  replace hb := hb.trans (hV20.mono hb.size)
  clear hH hV20
  have hH : v20.cell? ⟨Bs, 0, none⟩ = some (.slice A sn sc) ∧ v20.cell? ⟨Bt, 0, none⟩ = some (.slice B tn tc) ∧ v20.cell? ⟨Bu, 0, none⟩ = some (.slice D un uc) := ⟨(hb.cell (p := ⟨Bs, 0, none⟩) Hls.out).trans Hcs.out, (hb.cell (p := ⟨Bt, 0, none⟩) Hlt.out).trans Hct.out, (hb.cell (p := ⟨Bu, 0, none⟩) Hlu.out).trans Hcu.out⟩
  refine hK.out _ _ hH (fun _ => ?_)
  clear hK K
  (try simp only [Act.put, List.setIfInBounds_toArray, List.set_cons_zero, List.set_cons_succ])
  refine wpAnyH_ready (rs := [7]) (by kernel_rfl) (by simp) ?_
  refine AllReadyH.cons rfl (fun K hK => ?_) AllReadyH.nil
  go_simp
  refine (I.upto_ n _ In.out).mono ?_
  rintro q v21 ⟨U21, un21, uc21, rfl, hU21, hV21⟩
  replace hU19 := I.below hU19 hV21
  replace hU20 := I.below hU20 hV21
  replace hb := hb.trans (hV21.mono hb.size)
  clear hH hV21
  have hH : v21.cell? ⟨Bs, 0, none⟩ = some (.slice A sn sc) ∧ v21.cell? ⟨Bt, 0, none⟩ = some (.slice B tn tc) ∧ v21.cell? ⟨Bu, 0, none⟩ = some (.slice D un uc) := ⟨(hb.cell (p := ⟨Bs, 0, none⟩) Hls.out).trans Hcs.out, (hb.cell (p := ⟨Bt, 0, none⟩) Hlt.out).trans Hct.out, (hb.cell (p := ⟨Bu, 0, none⟩) Hlu.out).trans Hcu.out⟩
  refine hK.out _ _ hH (fun _ => ?_)
  clear hK K
  (try simp only [Act.put, List.setIfInBounds_toArray, List.set_cons_zero, List.set_cons_succ])
  refine wpAnyH_ready (rs := [8]) (by kernel_rfl) (by simp) ?_
  refine AllReadyH.cons rfl (fun K hK => ?_) AllReadyH.nil
  go_simp
  refine (I.and_ (I.below HS.out hb) hU21).mono ?_
  rintro q v22 ⟨U22, un22, uc22, rfl, hU22, hV22⟩
  replace hU19 := I.below hU19 hV22
  replace hU20 := I.below hU20 hV22
  replace hU21 := I.below hU21 hV22
  replace hb := hb.trans (hV22.mono hb.size)
  clear hH hV22
  have hH : v22.cell? ⟨Bs, 0, none⟩ = some (.slice A sn sc) ∧ v22.cell? ⟨Bt, 0, none⟩ = some (.slice B tn tc) ∧ v22.cell? ⟨Bu, 0, none⟩ = some (.slice D un uc) := ⟨(hb.cell (p := ⟨Bs, 0, none⟩) Hls.out).trans Hcs.out, (hb.cell (p := ⟨Bt, 0, none⟩) Hlt.out).trans Hct.out, (hb.cell (p := ⟨Bu, 0, none⟩) Hlu.out).trans Hcu.out⟩
  refine hK.out _ _ hH (fun _ => ?_)
  clear hK K
  (try simp only [Act.put, List.setIfInBounds_toArray, List.set_cons_zero, List.set_cons_succ])
  refine wpAnyH_ready (rs := [9]) (by kernel_rfl) (by simp) ?_
  refine AllReadyH.cons rfl (fun K hK => ?_) AllReadyH.nil
  go_simp
  refine ((by have := I.same_ hU20 hU22; rwa [decide_eq_true (twice OX.out n)] at this : Calls Tryd.prog 28 _ _ fun e w'' => e = .returned (.bool true) ∧ Below _ _ w'')).mono ?_
  rintro q v23 ⟨rfl, hV23⟩
  replace hU19 := I.below hU19 hV23
  replace hU20 := I.below hU20 hV23
  replace hU21 := I.below hU21 hV23
  replace hU22 := I.below hU22 hV23
  replace hb := hb.trans (hV23.mono hb.size)
  clear hH hV23
  have hH : v23.cell? ⟨Bs, 0, none⟩ = some (.slice A sn sc) ∧ v23.cell? ⟨Bt, 0, none⟩ = some (.slice B tn tc) ∧ v23.cell? ⟨Bu, 0, none⟩ = some (.slice D un uc) := ⟨(hb.cell (p := ⟨Bs, 0, none⟩) Hls.out).trans Hcs.out, (hb.cell (p := ⟨Bt, 0, none⟩) Hlt.out).trans Hct.out, (hb.cell (p := ⟨Bu, 0, none⟩) Hlu.out).trans Hcu.out⟩
  refine hK.out _ _ hH (fun _ => ?_)
  clear hK K
  (try simp only [Act.put, List.setIfInBounds_toArray, List.set_cons_zero, List.set_cons_succ])
  refine Rt.take (i := 10) (d := 16) (v := .bool true) rfl rfl (by kernel_rfl) (by kernel_rfl) (by kernel_rfl) (fun _ _ _ h => h) (Or.inl ⟨by rfl, ?_⟩) hH ?_
  · rintro w' ⟨s0, s1, s2⟩
    go_simp
  (try simp only [List.setIfInBounds_toArray, List.set_cons_zero, List.set_cons_succ])
  refine wpAnyH_done (by kernel_rfl) ?_ _
  (try simp only [Exit.then])
  clear hU19 hU20 hU21 hU22
  clear hH
  replace hb := hb.drew
  go_wp2_with fail
  have Hsum := Lib.hid (len_or OX.out OY.out)
  obtain ⟨p1, hp1⟩ : ∃ q, q = (andL X Y).length := ⟨_, rfl⟩
  obtain ⟨p2, hp2⟩ : ∃ q, q = (orL X Y).length := ⟨_, rfl⟩
  obtain ⟨p3, hp3⟩ : ∃ q, q = X.length := ⟨_, rfl⟩
  obtain ⟨p4, hp4⟩ : ∃ q, q = Y.length := ⟨_, rfl⟩
  have Hp1 := Lib.hid hp1
  have Hp2 := Lib.hid hp2
  have Hp3 := Lib.hid hp3
  have Hp4 := Lib.hid hp4
  obtain ⟨qq, hqq⟩ : ∃ q : Int, q = (p3 : Int) + (p4 : Int) := ⟨_, rfl⟩
  have hs1 : IntKind.i64.wrap ((p1 : Int) + (p2 : Int)) = qq := by
    have := Hsum.out; have := HX60.out; have := HY60.out
    rw [hqq, show (p3 : Int) + (p4 : Int) = (p1 : Int) + (p2 : Int) by omega]
    exact IntWalk.i64_in _ (by omega)
  have hs2 : IntKind.i64.wrap ((p3 : Int) + (p4 : Int)) = qq := by
    have := HX60.out; have := HY60.out
    rw [hqq]
    exact IntWalk.i64_in _ (by omega)
  clear hp1 hp2 hp3 hp4 hqq
  have hH : v23.drew.cell? ⟨Bs, 0, none⟩ = some (.slice A sn sc) ∧ v23.drew.cell? ⟨Bt, 0, none⟩ = some (.slice B tn tc) ∧ v23.drew.cell? ⟨Bu, 0, none⟩ = some (.slice D un uc) := ⟨(hb.cell (p := ⟨Bs, 0, none⟩) Hls.out).trans Hcs.out, (hb.cell (p := ⟨Bt, 0, none⟩) Hlt.out).trans Hct.out, (hb.cell (p := ⟨Bu, 0, none⟩) Hlu.out).trans Hcu.out⟩
  refine wp_region_any (by kernel_rfl) ?_
  refine wpAny_of_held (S := fun w' => w'.cell? ⟨Bs, 0, none⟩ = some (.slice A sn sc) ∧ w'.cell? ⟨Bt, 0, none⟩ = some (.slice B tn tc) ∧ w'.cell? ⟨Bu, 0, none⟩ = some (.slice D un uc)) _ _ _ _ ?_
  change wpAnyH _ _ _ _ _ 37 (Array.replicate 37 false) _ v23.drew
  refine Rt.take (i := 0) (d := 91) (v := .bool true) rfl rfl (by kernel_rfl) (by kernel_rfl) (by kernel_rfl) (fun _ _ _ h => h) (Or.inl ⟨by rfl, ?_⟩) hH ?_
  · rintro w' ⟨s0, s1, s2⟩
    go_simp
  (try simp only [List.setIfInBounds_toArray, List.set_cons_zero, List.set_cons_succ])
  refine Rt.take (i := 1) (d := 92) (v := .bool true) rfl rfl (by kernel_rfl) (by kernel_rfl) (by kernel_rfl) (fun _ _ _ h => h) (Or.inl ⟨by rfl, ?_⟩) hH ?_
  · rintro w' ⟨s0, s1, s2⟩
    go_simp
  (try simp only [List.setIfInBounds_toArray, List.set_cons_zero, List.set_cons_succ])
  refine Rt.take (i := 2) (d := 93) (v := .bool true) rfl rfl (by kernel_rfl) (by kernel_rfl) (by kernel_rfl) (fun _ _ _ h => h) (Or.inl ⟨by rfl, ?_⟩) hH ?_
  · rintro w' ⟨s0, s1, s2⟩
    go_simp
  (try simp only [List.setIfInBounds_toArray, List.set_cons_zero, List.set_cons_succ])
  refine Rt.take (i := 3) (d := 94) (v := .bool true) rfl rfl (by kernel_rfl) (by kernel_rfl) (by kernel_rfl) (fun _ _ _ h => h) (Or.inl ⟨by rfl, ?_⟩) hH ?_
  · rintro w' ⟨s0, s1, s2⟩
    go_simp
  (try simp only [List.setIfInBounds_toArray, List.set_cons_zero, List.set_cons_succ])
  refine Rt.take (i := 4) (d := 95) (v := .bool true) rfl rfl (by kernel_rfl) (by kernel_rfl) (by kernel_rfl) (fun _ _ _ h => h) (Or.inl ⟨by rfl, ?_⟩) hH ?_
  · rintro w' ⟨s0, s1, s2⟩
    go_simp
  (try simp only [List.setIfInBounds_toArray, List.set_cons_zero, List.set_cons_succ])
  refine Rt.take (i := 5) (d := 96) (v := .bool true) rfl rfl (by kernel_rfl) (by kernel_rfl) (by kernel_rfl) (fun _ _ _ h => h) (Or.inl ⟨by rfl, ?_⟩) hH ?_
  · rintro w' ⟨s0, s1, s2⟩
    go_simp
  (try simp only [List.setIfInBounds_toArray, List.set_cons_zero, List.set_cons_succ])
  refine Rt.take (i := 6) (d := 97) (v := .bool true) rfl rfl (by kernel_rfl) (by kernel_rfl) (by kernel_rfl) (fun _ _ _ h => h) (Or.inl ⟨by rfl, ?_⟩) hH ?_
  · rintro w' ⟨s0, s1, s2⟩
    go_simp
  (try simp only [List.setIfInBounds_toArray, List.set_cons_zero, List.set_cons_succ])
  refine Rt.take (i := 7) (d := 98) (v := .bool true) rfl rfl (by kernel_rfl) (by kernel_rfl) (by kernel_rfl) (fun _ _ _ h => h) (Or.inl ⟨by rfl, ?_⟩) hH ?_
  · rintro w' ⟨s0, s1, s2⟩
    go_simp
  (try simp only [List.setIfInBounds_toArray, List.set_cons_zero, List.set_cons_succ])
  refine Rt.take (i := 8) (d := 99) (v := .bool true) rfl rfl (by kernel_rfl) (by kernel_rfl) (by kernel_rfl) (fun _ _ _ h => h) (Or.inl ⟨by rfl, ?_⟩) hH ?_
  · rintro w' ⟨s0, s1, s2⟩
    go_simp
  (try simp only [List.setIfInBounds_toArray, List.set_cons_zero, List.set_cons_succ])
  refine Rt.take (i := 9) (d := 100) (v := .bool true) rfl rfl (by kernel_rfl) (by kernel_rfl) (by kernel_rfl) (fun _ _ _ h => h) (Or.inl ⟨by rfl, ?_⟩) hH ?_
  · rintro w' ⟨s0, s1, s2⟩
    go_simp
  (try simp only [List.setIfInBounds_toArray, List.set_cons_zero, List.set_cons_succ])
  refine Rt.take (i := 10) (d := 101) (v := .bool true) rfl rfl (by kernel_rfl) (by kernel_rfl) (by kernel_rfl) (fun _ _ _ h => h) (Or.inl ⟨by rfl, ?_⟩) hH ?_
  · rintro w' ⟨s0, s1, s2⟩
    go_simp
  (try simp only [List.setIfInBounds_toArray, List.set_cons_zero, List.set_cons_succ])
  refine Rt.take (i := 11) (d := 102) (v := (.agg #[.slice A sn sc])) rfl rfl (by kernel_rfl) (by kernel_rfl) (by kernel_rfl) (fun _ _ _ h => h) (Or.inl ⟨by rfl, ?_⟩) hH ?_
  · rintro w' ⟨s0, s1, s2⟩
    go_simp
  (try simp only [List.setIfInBounds_toArray, List.set_cons_zero, List.set_cons_succ])
  refine Rt.take (i := 12) (d := 103) (v := (.agg #[.slice B tn tc])) rfl rfl (by kernel_rfl) (by kernel_rfl) (by kernel_rfl) (fun _ _ _ h => h) (Or.inl ⟨by rfl, ?_⟩) hH ?_
  · rintro w' ⟨s0, s1, s2⟩
    go_simp
  (try simp only [List.setIfInBounds_toArray, List.set_cons_zero, List.set_cons_succ])
  refine Rt.take (i := 15) (d := 106) (v := (.agg #[.slice A sn sc])) rfl rfl (by kernel_rfl) (by kernel_rfl) (by kernel_rfl) (fun _ _ _ h => h) (Or.inl ⟨by rfl, ?_⟩) hH ?_
  · rintro w' ⟨s0, s1, s2⟩
    go_simp
  (try simp only [List.setIfInBounds_toArray, List.set_cons_zero, List.set_cons_succ])
  refine Rt.take (i := 16) (d := 107) (v := (.agg #[.slice B tn tc])) rfl rfl (by kernel_rfl) (by kernel_rfl) (by kernel_rfl) (fun _ _ _ h => h) (Or.inl ⟨by rfl, ?_⟩) hH ?_
  · rintro w' ⟨s0, s1, s2⟩
    go_simp
  (try simp only [List.setIfInBounds_toArray, List.set_cons_zero, List.set_cons_succ])
  refine Rt.take (i := 20) (d := 111) (v := (.agg #[.slice A sn sc])) rfl rfl (by kernel_rfl) (by kernel_rfl) (by kernel_rfl) (fun _ _ _ h => h) (Or.inl ⟨by rfl, ?_⟩) hH ?_
  · rintro w' ⟨s0, s1, s2⟩
    go_simp
  (try simp only [List.setIfInBounds_toArray, List.set_cons_zero, List.set_cons_succ])
  refine Rt.take (i := 22) (d := 113) (v := (.agg #[.slice B tn tc])) rfl rfl (by kernel_rfl) (by kernel_rfl) (by kernel_rfl) (fun _ _ _ h => h) (Or.inl ⟨by rfl, ?_⟩) hH ?_
  · rintro w' ⟨s0, s1, s2⟩
    go_simp
  (try simp only [List.setIfInBounds_toArray, List.set_cons_zero, List.set_cons_succ])
  refine wpAnyH_ready (rs := [13]) (by kernel_rfl) (by simp) ?_
  refine AllReadyH.cons rfl (fun K hK => ?_) AllReadyH.nil
  go_simp
  refine (I.and_ (I.below HS.out hb) (I.below HT.out hb)).mono ?_
  rintro q v24 ⟨U24, un24, uc24, rfl, hU24, hV24⟩
  replace hb := hb.trans (hV24.mono hb.size)
  clear hH hV24
  have hH : v24.cell? ⟨Bs, 0, none⟩ = some (.slice A sn sc) ∧ v24.cell? ⟨Bt, 0, none⟩ = some (.slice B tn tc) ∧ v24.cell? ⟨Bu, 0, none⟩ = some (.slice D un uc) := ⟨(hb.cell (p := ⟨Bs, 0, none⟩) Hls.out).trans Hcs.out, (hb.cell (p := ⟨Bt, 0, none⟩) Hlt.out).trans Hct.out, (hb.cell (p := ⟨Bu, 0, none⟩) Hlu.out).trans Hcu.out⟩
  refine hK.out _ _ hH (fun _ => ?_)
  clear hK K
  (try simp only [Act.put, List.setIfInBounds_toArray, List.set_cons_zero, List.set_cons_succ])
  refine wpAnyH_ready (rs := [14]) (by kernel_rfl) (by simp) ?_
  refine AllReadyH.cons rfl (fun K hK => ?_) AllReadyH.nil
  go_simp
  refine ((by have := I.count_ hU24; rwa [← Hp1.out] at this : Calls Tryd.prog 25 _ _ fun e w'' => e = .returned (.int .i64 (p1 : Int)) ∧ Below _ _ w'')).mono ?_
  rintro q v25 ⟨rfl, hV25⟩
  replace hU24 := I.below hU24 hV25
  replace hb := hb.trans (hV25.mono hb.size)
  clear hH hV25
  have hH : v25.cell? ⟨Bs, 0, none⟩ = some (.slice A sn sc) ∧ v25.cell? ⟨Bt, 0, none⟩ = some (.slice B tn tc) ∧ v25.cell? ⟨Bu, 0, none⟩ = some (.slice D un uc) := ⟨(hb.cell (p := ⟨Bs, 0, none⟩) Hls.out).trans Hcs.out, (hb.cell (p := ⟨Bt, 0, none⟩) Hlt.out).trans Hct.out, (hb.cell (p := ⟨Bu, 0, none⟩) Hlu.out).trans Hcu.out⟩
  refine hK.out _ _ hH (fun _ => ?_)
  clear hK K
  (try simp only [Act.put, List.setIfInBounds_toArray, List.set_cons_zero, List.set_cons_succ])
  refine wpAnyH_ready (rs := [17]) (by kernel_rfl) (by simp) ?_
  refine AllReadyH.cons rfl (fun K hK => ?_) AllReadyH.nil
  go_simp
  refine (I.or_ (I.below HS.out hb) (I.below HT.out hb)).mono ?_
  rintro q v26 ⟨U26, un26, uc26, rfl, hU26, hV26⟩
  replace hb := hb.trans (hV26.mono hb.size)
  clear hH hV26
  have hH : v26.cell? ⟨Bs, 0, none⟩ = some (.slice A sn sc) ∧ v26.cell? ⟨Bt, 0, none⟩ = some (.slice B tn tc) ∧ v26.cell? ⟨Bu, 0, none⟩ = some (.slice D un uc) := ⟨(hb.cell (p := ⟨Bs, 0, none⟩) Hls.out).trans Hcs.out, (hb.cell (p := ⟨Bt, 0, none⟩) Hlt.out).trans Hct.out, (hb.cell (p := ⟨Bu, 0, none⟩) Hlu.out).trans Hcu.out⟩
  refine hK.out _ _ hH (fun _ => ?_)
  clear hK K
  (try simp only [Act.put, List.setIfInBounds_toArray, List.set_cons_zero, List.set_cons_succ])
  refine wpAnyH_ready (rs := [18]) (by kernel_rfl) (by simp) ?_
  refine AllReadyH.cons rfl (fun K hK => ?_) AllReadyH.nil
  go_simp
  refine ((by have := I.count_ hU26; rwa [← Hp2.out] at this : Calls Tryd.prog 25 _ _ fun e w'' => e = .returned (.int .i64 (p2 : Int)) ∧ Below _ _ w'')).mono ?_
  rintro q v27 ⟨rfl, hV27⟩
  replace hU26 := I.below hU26 hV27
  replace hb := hb.trans (hV27.mono hb.size)
  clear hH hV27
  have hH : v27.cell? ⟨Bs, 0, none⟩ = some (.slice A sn sc) ∧ v27.cell? ⟨Bt, 0, none⟩ = some (.slice B tn tc) ∧ v27.cell? ⟨Bu, 0, none⟩ = some (.slice D un uc) := ⟨(hb.cell (p := ⟨Bs, 0, none⟩) Hls.out).trans Hcs.out, (hb.cell (p := ⟨Bt, 0, none⟩) Hlt.out).trans Hct.out, (hb.cell (p := ⟨Bu, 0, none⟩) Hlu.out).trans Hcu.out⟩
  refine hK.out _ _ hH (fun _ => ?_)
  clear hK K
  (try simp only [Act.put, List.setIfInBounds_toArray, List.set_cons_zero, List.set_cons_succ])
  refine Rt.take (i := 19) (d := 110) (v := (.int .i64 qq)) rfl rfl (by kernel_rfl) (by kernel_rfl) (by kernel_rfl) (fun _ _ _ h => h) (Or.inl ⟨by rfl, ?_⟩) hH ?_
  · rintro w' ⟨s0, s1, s2⟩
    go_simp
  (try simp only [List.setIfInBounds_toArray, List.set_cons_zero, List.set_cons_succ])
  refine wpAnyH_ready (rs := [21]) (by kernel_rfl) (by simp) ?_
  refine AllReadyH.cons rfl (fun K hK => ?_) AllReadyH.nil
  go_simp
  refine ((by have := I.count_ (I.below HS.out hb); rwa [← Hp3.out] at this : Calls Tryd.prog 25 _ _ fun e w'' => e = .returned (.int .i64 (p3 : Int)) ∧ Below _ _ w'')).mono ?_
  rintro q v28 ⟨rfl, hV28⟩
  replace hb := hb.trans (hV28.mono hb.size)
  clear hH hV28
  have hH : v28.cell? ⟨Bs, 0, none⟩ = some (.slice A sn sc) ∧ v28.cell? ⟨Bt, 0, none⟩ = some (.slice B tn tc) ∧ v28.cell? ⟨Bu, 0, none⟩ = some (.slice D un uc) := ⟨(hb.cell (p := ⟨Bs, 0, none⟩) Hls.out).trans Hcs.out, (hb.cell (p := ⟨Bt, 0, none⟩) Hlt.out).trans Hct.out, (hb.cell (p := ⟨Bu, 0, none⟩) Hlu.out).trans Hcu.out⟩
  refine hK.out _ _ hH (fun _ => ?_)
  clear hK K
  (try simp only [Act.put, List.setIfInBounds_toArray, List.set_cons_zero, List.set_cons_succ])
  refine wpAnyH_ready (rs := [23]) (by kernel_rfl) (by simp) ?_
  refine AllReadyH.cons rfl (fun K hK => ?_) AllReadyH.nil
  go_simp
  refine ((by have := I.count_ (I.below HT.out hb); rwa [← Hp4.out] at this : Calls Tryd.prog 25 _ _ fun e w'' => e = .returned (.int .i64 (p4 : Int)) ∧ Below _ _ w'')).mono ?_
  rintro q v29 ⟨rfl, hV29⟩
  replace hb := hb.trans (hV29.mono hb.size)
  clear hH hV29
  have hH : v29.cell? ⟨Bs, 0, none⟩ = some (.slice A sn sc) ∧ v29.cell? ⟨Bt, 0, none⟩ = some (.slice B tn tc) ∧ v29.cell? ⟨Bu, 0, none⟩ = some (.slice D un uc) := ⟨(hb.cell (p := ⟨Bs, 0, none⟩) Hls.out).trans Hcs.out, (hb.cell (p := ⟨Bt, 0, none⟩) Hlt.out).trans Hct.out, (hb.cell (p := ⟨Bu, 0, none⟩) Hlu.out).trans Hcu.out⟩
  refine hK.out _ _ hH (fun _ => ?_)
  clear hK K
  (try simp only [Act.put, List.setIfInBounds_toArray, List.set_cons_zero, List.set_cons_succ])
  refine Rt.take (i := 24) (d := 115) (v := (.int .i64 qq)) rfl rfl (by kernel_rfl) (by kernel_rfl) (by kernel_rfl) (fun _ _ _ h => h) (Or.inl ⟨by rfl, ?_⟩) hH ?_
  · rintro w' ⟨s0, s1, s2⟩
    go_simp
  (try simp only [List.setIfInBounds_toArray, List.set_cons_zero, List.set_cons_succ])
  refine Rt.take (i := 25) (d := 116) (v := .bool true) rfl rfl (by kernel_rfl) (by kernel_rfl) (by kernel_rfl) (fun _ _ _ h => h) (Or.inl ⟨by rfl, ?_⟩) hH ?_
  · rintro w' ⟨s0, s1, s2⟩
    go_simp
  (try simp only [List.setIfInBounds_toArray, List.set_cons_zero, List.set_cons_succ])
  refine Rt.take (i := 26) (d := 117) (v := .bool true) rfl rfl (by kernel_rfl) (by kernel_rfl) (by kernel_rfl) (fun _ _ _ h => h) (Or.inl ⟨by rfl, ?_⟩) hH ?_
  · rintro w' ⟨s0, s1, s2⟩
    go_simp
  (try simp only [List.setIfInBounds_toArray, List.set_cons_zero, List.set_cons_succ])
  refine Rt.take (i := 27) (d := 118) (v := .bool true) rfl rfl (by kernel_rfl) (by kernel_rfl) (by kernel_rfl) (fun _ _ _ h => h) (Or.inl ⟨by rfl, ?_⟩) hH ?_
  · rintro w' ⟨s0, s1, s2⟩
    go_simp
  (try simp only [List.setIfInBounds_toArray, List.set_cons_zero, List.set_cons_succ])
  refine Rt.take (i := 28) (d := 119) (v := (.agg #[.slice A sn sc])) rfl rfl (by kernel_rfl) (by kernel_rfl) (by kernel_rfl) (fun _ _ _ h => h) (Or.inl ⟨by rfl, ?_⟩) hH ?_
  · rintro w' ⟨s0, s1, s2⟩
    go_simp
  (try simp only [List.setIfInBounds_toArray, List.set_cons_zero, List.set_cons_succ])
  refine Rt.take (i := 29) (d := 120) (v := (.int .i64 n)) rfl rfl (by kernel_rfl) (by kernel_rfl) (by kernel_rfl) (fun _ _ _ h => h) (Or.inl ⟨by rfl, ?_⟩) hH ?_
  · rintro w' ⟨s0, s1, s2⟩
    go_simp
  (try simp only [List.setIfInBounds_toArray, List.set_cons_zero, List.set_cons_succ])
  refine Rt.take (i := 31) (d := 122) (v := (.agg #[.slice A sn sc])) rfl rfl (by kernel_rfl) (by kernel_rfl) (by kernel_rfl) (fun _ _ _ h => h) (Or.inl ⟨by rfl, ?_⟩) hH ?_
  · rintro w' ⟨s0, s1, s2⟩
    go_simp
  (try simp only [List.setIfInBounds_toArray, List.set_cons_zero, List.set_cons_succ])
  refine wpAnyH_ready (rs := [30]) (by kernel_rfl) (by simp) ?_
  refine AllReadyH.cons rfl (fun K hK => ?_) AllReadyH.nil
  go_simp
  refine (I.not_ (I.below HS.out hb) n In.out).mono ?_
  rintro q v30 ⟨U30, un30, uc30, rfl, hU30, hV30⟩
  replace hb := hb.trans (hV30.mono hb.size)
  clear hH hV30
  have hH : v30.cell? ⟨Bs, 0, none⟩ = some (.slice A sn sc) ∧ v30.cell? ⟨Bt, 0, none⟩ = some (.slice B tn tc) ∧ v30.cell? ⟨Bu, 0, none⟩ = some (.slice D un uc) := ⟨(hb.cell (p := ⟨Bs, 0, none⟩) Hls.out).trans Hcs.out, (hb.cell (p := ⟨Bt, 0, none⟩) Hlt.out).trans Hct.out, (hb.cell (p := ⟨Bu, 0, none⟩) Hlu.out).trans Hcu.out⟩
  refine hK.out _ _ hH (fun _ => ?_)
  clear hK K
  (try simp only [Act.put, List.setIfInBounds_toArray, List.set_cons_zero, List.set_cons_succ])
  refine wpAnyH_ready (rs := [32]) (by kernel_rfl) (by simp) ?_
  refine AllReadyH.cons rfl (fun K hK => ?_) AllReadyH.nil
  go_simp
  refine (I.and_ hU30 (I.below HS.out hb)).mono ?_
  rintro q v31 ⟨U31, un31, uc31, rfl, hU31, hV31⟩
  replace hU30 := I.below hU30 hV31
  replace hb := hb.trans (hV31.mono hb.size)
  clear hH hV31
  have hH : v31.cell? ⟨Bs, 0, none⟩ = some (.slice A sn sc) ∧ v31.cell? ⟨Bt, 0, none⟩ = some (.slice B tn tc) ∧ v31.cell? ⟨Bu, 0, none⟩ = some (.slice D un uc) := ⟨(hb.cell (p := ⟨Bs, 0, none⟩) Hls.out).trans Hcs.out, (hb.cell (p := ⟨Bt, 0, none⟩) Hlt.out).trans Hct.out, (hb.cell (p := ⟨Bu, 0, none⟩) Hlu.out).trans Hcu.out⟩
  refine hK.out _ _ hH (fun _ => ?_)
  clear hK K
  (try simp only [Act.put, List.setIfInBounds_toArray, List.set_cons_zero, List.set_cons_succ])
  refine wpAnyH_ready (rs := [33]) (by kernel_rfl) (by simp) ?_
  refine AllReadyH.cons rfl (fun K hK => ?_) AllReadyH.nil
  go_simp
  refine ((by have := I.count_ hU31; rwa [apart] at this : Calls Tryd.prog 25 _ _ fun e w'' => e = .returned (.int .i64 0) ∧ Below _ _ w'')).mono ?_
  rintro q v32 ⟨rfl, hV32⟩
  replace hU30 := I.below hU30 hV32
  replace hU31 := I.below hU31 hV32
  replace hb := hb.trans (hV32.mono hb.size)
  clear hH hV32
  have hH : v32.cell? ⟨Bs, 0, none⟩ = some (.slice A sn sc) ∧ v32.cell? ⟨Bt, 0, none⟩ = some (.slice B tn tc) ∧ v32.cell? ⟨Bu, 0, none⟩ = some (.slice D un uc) := ⟨(hb.cell (p := ⟨Bs, 0, none⟩) Hls.out).trans Hcs.out, (hb.cell (p := ⟨Bt, 0, none⟩) Hlt.out).trans Hct.out, (hb.cell (p := ⟨Bu, 0, none⟩) Hlu.out).trans Hcu.out⟩
  refine hK.out _ _ hH (fun _ => ?_)
  clear hK K
  (try simp only [Act.put, List.setIfInBounds_toArray, List.set_cons_zero, List.set_cons_succ])
  refine Rt.take (i := 34) (d := 125) (v := .bool true) rfl rfl (by kernel_rfl) (by kernel_rfl) (by kernel_rfl) (fun _ _ _ h => h) (Or.inl ⟨by rfl, ?_⟩) hH ?_
  · rintro w' ⟨s0, s1, s2⟩
    go_simp
  (try simp only [List.setIfInBounds_toArray, List.set_cons_zero, List.set_cons_succ])
  refine Rt.take (i := 35) (d := 126) (v := .bool true) rfl rfl (by kernel_rfl) (by kernel_rfl) (by kernel_rfl) (fun _ _ _ h => h) (Or.inl ⟨by rfl, ?_⟩) hH ?_
  · rintro w' ⟨s0, s1, s2⟩
    go_simp
  (try simp only [List.setIfInBounds_toArray, List.set_cons_zero, List.set_cons_succ])
  refine Rt.take (i := 36) (d := 8) (v := .bool true) rfl rfl (by kernel_rfl) (by kernel_rfl) (by kernel_rfl) (fun _ _ _ h => h) (Or.inl ⟨by rfl, ?_⟩) hH ?_
  · rintro w' ⟨s0, s1, s2⟩
    go_simp
  (try simp only [List.setIfInBounds_toArray, List.set_cons_zero, List.set_cons_succ])
  refine wpAnyH_done (by kernel_rfl) ?_ _
  (try simp only [Exit.then])
  clear hU30 hU31
  clear hH
  go_wp2_with fail
  go_ret
  exact ⟨rfl, Hb7.out.trans (hb.mono Hb7.out.size)⟩
end Lw
end Go.Proofs.YtgmjafammdkgfaaDoor
