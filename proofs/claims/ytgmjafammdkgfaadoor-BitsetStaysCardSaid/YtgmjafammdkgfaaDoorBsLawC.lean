/- The walk of the statement BitsetStays of layer 9. -/
import Derived.Test.YtgmjafammdkgfaaDoorBsIfc
import Derived.Test.YtgmjafammdkgfaaDoorRegTake
namespace Go.Proofs.YtgmjafammdkgfaaDoor
set_option maxRecDepth 20000
open Go.RowKit
namespace Bi
theorem wrap_in (x : Int) : I64 (wrap64 x) := by
  unfold I64 wrap64
  omega
end Bi
namespace Lw
open Bi Bs Bx
variable {S : World → Option Addr → Nat → Nat → List Int → Prop}
set_option maxRecDepth 100000 in
set_option maxHeartbeats 16000000 in
theorem bitsetStays_walk (I : Ifc S) (Aa : Option Addr) (na ca : Nat) (la : List Int) (Ab : Option Addr) (nb cb : Nat) (lb : List Int) (i n : Int) (w : World) (hSa : Wd.Sl w .i64 Aa na ca la) (_fa : Wd.Fits .i64 la) (hSb : Wd.Sl w .i64 Ab nb cb lb) (_fb : Wd.Fits .i64 lb)
    (i0 : -9223372036854775808 ≤ i) (i1 : i ≤ 9223372036854775807) (n0 : -9223372036854775808 ≤ n) (n1 : n ≤ 9223372036854775807) (hTab : Tab w) :
    Calls Tryd.prog 5 #[.slice Aa na ca, .slice Ab nb cb, .int .i64 i, .int .i64 n] w fun e w' => e = .returned (.bool true) ∧ Below w.heap.size w w' := by
  have Ca := Lib.hid (awake_any I w hTab)
  have Ha := Lib.hid hSa
  have Hb := Lib.hid hSb
  have In := Lib.hid (show I64 n from ⟨n0, n1⟩)
  have Ii := Lib.hid (show I64 i from ⟨i0, i1⟩)
  clear hSa hSb hTab
  by_cases h1 : 60 < na
  · have g1 : (60 : Int) < na := by omega
    go_enter Tryd.func5, Tryd.ntmps5
    go_wp2_with fail
    refine (Ca.out).mono ?_
    rintro e w1 ⟨rfl, hb1⟩
    go_wp2_with fail
    go_ret
    exact ⟨rfl, hb1⟩
  by_cases h2 : 60 < nb
  · have g1 : ¬ (60 : Int) < na := by omega
    have g2 : (60 : Int) < nb := by omega
    go_enter Tryd.func5, Tryd.ntmps5
    go_wp2_with fail
    refine (Ca.out).mono ?_
    rintro e w1 ⟨rfl, hb1⟩
    go_wp2_with fail
    go_ret
    exact ⟨rfl, hb1⟩
  have g1 : ¬ (60 : Int) < na := by omega
  have g2 : ¬ (60 : Int) < nb := by omega
  by_cases g3 : 3000 < n
  ·
    go_enter Tryd.func5, Tryd.ntmps5
    go_wp2_with fail
    refine (Ca.out).mono ?_
    rintro e w1 ⟨rfl, hb1⟩
    go_wp2_with fail
    go_ret
    exact ⟨rfl, hb1⟩
  have Ka := Lib.hid fun w' (hb : Below w.heap.size w w') => I.of_ Aa na ca la w' (Ha.out.below hb) (by omega)
  have Kb := Lib.hid fun w' (hb : Below w.heap.size w w') => I.of_ Ab nb cb lb w' (Hb.out.below hb) (by omega)
  have OX := Lib.hid (of_ok la)
  generalize ofL la = X at *
  generalize ofL lb = Y at *
  clear h1 h2
  go_enter Tryd.func5, Tryd.ntmps5
  go_wp2_with fail
  refine (Ca.out).mono ?_
  rintro e w1 ⟨rfl, hb1⟩
  go_wp2_with fail
  refine (Ka.out w1 hb1).mono ?_
  rintro e w2 ⟨A, sn, sc, rfl, hS2, hB2⟩
  have hb2 := hb1.trans (hB2.mono hb1.size)
  have hx2 := (Below.refl w2.heap.size w2).alloc (Nat.le_refl _) (.cells #[.slice A sn sc] 27)
  have hS3 := I.below hS2 hx2
  have cs := box1 w2 A sn sc
  have hb3 := hb2.trans (hx2.mono hb2.size)
  have hls : w2.heap.size < (w2.alloc (.cells #[.slice A sn sc] 27)).heap.size := by simp
  clear hB2 hS2 hb2 hx2 hb1
  go_wp2_with fail
  generalize w2.alloc (.cells #[.slice A sn sc] 27) = w3 at *
  generalize w2.heap.size = Bs at *
  refine (Ka.out w3 hb3).mono ?_
  rintro e w4 ⟨B, tn, tc, rfl, hT4, hB4⟩
  have hb4 := hb3.trans (hB4.mono hb3.size)
  have hx5 := (Below.refl w4.heap.size w4).alloc (Nat.le_refl _) (.cells #[.slice B tn tc] 27)
  have h35 := hB4.trans (hx5.mono hB4.size)
  have hT5 := I.below hT4 hx5
  have hS5 := I.below hS3 h35
  have ct := box1 w4 B tn tc
  have cs5 := (h35.cell (p := ⟨Bs, 0, none⟩) hls).trans cs
  have hls5 := Nat.lt_of_lt_of_le hls h35.size
  have hlt5 : w4.heap.size < (w4.alloc (.cells #[.slice B tn tc] 27)).heap.size := by simp
  have hb5 := hb4.trans (hx5.mono hb4.size)
  clear hB4 hS3 cs hls hx5 hT4 hb4 hb3 Ka h35
  go_wp2_with fail
  generalize w4.alloc (.cells #[.slice B tn tc] 27) = w5 at *
  generalize w4.heap.size = Bt at *
  refine (Kb.out w5 hb5).mono ?_
  rintro e w6 ⟨D, un, uc, rfl, hU6, hB6⟩
  have hb6 := hb5.trans (hB6.mono hb5.size)
  have hx7 := (Below.refl w6.heap.size w6).alloc (Nat.le_refl _) (.cells #[.slice D un uc] 27)
  have h57 := hB6.trans (hx7.mono hB6.size)
  have HS := Lib.hid (I.below hS5 h57)
  have HT := Lib.hid (I.below hT5 h57)
  have HU := Lib.hid (I.below hU6 hx7)
  have Hcs := Lib.hid ((h57.cell (p := ⟨Bs, 0, none⟩) hls5).trans cs5)
  have Hct := Lib.hid ((h57.cell (p := ⟨Bt, 0, none⟩) hlt5).trans ct)
  have Hcu := Lib.hid (box1 w6 D un uc)
  have Hls := Lib.hid (Nat.lt_of_lt_of_le hls5 h57.size)
  have Hlt := Lib.hid (Nat.lt_of_lt_of_le hlt5 h57.size)
  have Hlu := Lib.hid (show w6.heap.size < (w6.alloc (.cells #[.slice D un uc] 27)).heap.size by simp)
  have Hb7 := Lib.hid (hb6.trans (hx7.mono hb6.size))
  have cs := Hcs.out
  have cu := Hcu.out
  clear Kb hB6 hb6 hb5 h57 hS5 hT5 hU6 cs5 ct hls5 hlt5 hx7 Ha Hb Ca
  go_wp2_with fail
  generalize w6.alloc (.cells #[.slice D un uc] 27) = wb at *
  generalize w6.heap.size = Bu at *
  have hb := Below.refl wb.heap.size wb
  refine (I.with_ (I.below HS.out hb) i Ii.out).mono ?_
  rintro e v1 ⟨U1, un1, uc1, rfl, hU1, hV1⟩
  clear cs cu
  replace hb := hb.trans (hV1.mono hb.size)
  have cs := (hb.cell (p := ⟨Bs, 0, none⟩) Hls.out).trans Hcs.out
  have cu := (hb.cell (p := ⟨Bu, 0, none⟩) Hlu.out).trans Hcu.out
  clear hV1
  have hx1 := (Below.refl v1.heap.size v1).alloc (Nat.le_refl _) (.cells #[.slice U1 un1 uc1] 27)
  replace hU1 := I.below hU1 hx1
  replace hb := hb.trans (hx1.mono hb.size)
  clear cs cu
  have cs := (hb.cell (p := ⟨Bs, 0, none⟩) Hls.out).trans Hcs.out
  have cu := (hb.cell (p := ⟨Bu, 0, none⟩) Hlu.out).trans Hcu.out
  clear hx1
  go_wp2_with fail
  generalize v1.alloc (.cells #[.slice U1 un1 uc1] 27) = y1 at *
  refine (I.without_ hU1 i Ii.out).mono ?_
  rintro e v2 ⟨U2, un2, uc2, rfl, hU2, hV2⟩
  clear cs cu
  replace hb := hb.trans (hV2.mono hb.size)
  have cs := (hb.cell (p := ⟨Bs, 0, none⟩) Hls.out).trans Hcs.out
  have cu := (hb.cell (p := ⟨Bu, 0, none⟩) Hlu.out).trans Hcu.out
  clear hV2
  clear hU2 hU1
  go_wp2_with fail
  refine (I.without_ (I.below HS.out hb) i Ii.out).mono ?_
  rintro e v3 ⟨U3, un3, uc3, rfl, hU3, hV3⟩
  clear cs cu
  replace hb := hb.trans (hV3.mono hb.size)
  have cs := (hb.cell (p := ⟨Bs, 0, none⟩) Hls.out).trans Hcs.out
  have cu := (hb.cell (p := ⟨Bu, 0, none⟩) Hlu.out).trans Hcu.out
  clear hV3
  go_wp2_with fail
  refine (I.with_ hU3 _ (wrap_in _)).mono ?_
  rintro e v4 ⟨U4, un4, uc4, rfl, hU4, hV4⟩
  clear cs cu
  replace hb := hb.trans (hV4.mono hb.size)
  have cs := (hb.cell (p := ⟨Bs, 0, none⟩) Hls.out).trans Hcs.out
  have cu := (hb.cell (p := ⟨Bu, 0, none⟩) Hlu.out).trans Hcu.out
  clear hV4
  clear hU3 hU4
  go_wp2_with fail
  refine (I.or_ (I.below HS.out hb) (I.below HU.out hb)).mono ?_
  rintro e v5 ⟨U5, un5, uc5, rfl, hU5, hV5⟩
  clear cs cu
  replace hb := hb.trans (hV5.mono hb.size)
  have cs := (hb.cell (p := ⟨Bs, 0, none⟩) Hls.out).trans Hcs.out
  have cu := (hb.cell (p := ⟨Bu, 0, none⟩) Hlu.out).trans Hcu.out
  clear hV5
  have hx5 := (Below.refl v5.heap.size v5).alloc (Nat.le_refl _) (.cells #[.slice U5 un5 uc5] 27)
  replace hU5 := I.below hU5 hx5
  replace hb := hb.trans (hx5.mono hb.size)
  clear cs cu
  have cs := (hb.cell (p := ⟨Bs, 0, none⟩) Hls.out).trans Hcs.out
  have cu := (hb.cell (p := ⟨Bu, 0, none⟩) Hlu.out).trans Hcu.out
  clear hx5
  go_wp2_with fail
  generalize v5.alloc (.cells #[.slice U5 un5 uc5] 27) = y5 at *
  refine (I.with_ hU5 5 ⟨by omega, by omega⟩).mono ?_
  rintro e v6 ⟨U6, un6, uc6, rfl, hU6, hV6⟩
  clear cs cu
  replace hb := hb.trans (hV6.mono hb.size)
  have cs := (hb.cell (p := ⟨Bs, 0, none⟩) Hls.out).trans Hcs.out
  have cu := (hb.cell (p := ⟨Bu, 0, none⟩) Hlu.out).trans Hcu.out
  clear hV6
  clear hU5
  go_wp2_with fail
  refine (I.without_ hU6 6 ⟨by omega, by omega⟩).mono ?_
  rintro e v7 ⟨U7, un7, uc7, rfl, hU7, hV7⟩
  clear cs cu
  replace hb := hb.trans (hV7.mono hb.size)
  have cs := (hb.cell (p := ⟨Bs, 0, none⟩) Hls.out).trans Hcs.out
  have cu := (hb.cell (p := ⟨Bu, 0, none⟩) Hlu.out).trans Hcu.out
  clear hV7
  clear hU6 hU7
  go_wp2_with fail
  refine (I.and_ (I.below HS.out hb) (I.below HU.out hb)).mono ?_
  rintro e v8 ⟨U8, un8, uc8, rfl, hU8, hV8⟩
  clear cs cu
  replace hb := hb.trans (hV8.mono hb.size)
  have cs := (hb.cell (p := ⟨Bs, 0, none⟩) Hls.out).trans Hcs.out
  have cu := (hb.cell (p := ⟨Bu, 0, none⟩) Hlu.out).trans Hcu.out
  clear hV8
  go_wp2_with fail
  refine (I.with_ hU8 7 ⟨by omega, by omega⟩).mono ?_
  rintro e v9 ⟨U9, un9, uc9, rfl, hU9, hV9⟩
  clear cs cu
  replace hb := hb.trans (hV9.mono hb.size)
  have cs := (hb.cell (p := ⟨Bs, 0, none⟩) Hls.out).trans Hcs.out
  have cu := (hb.cell (p := ⟨Bu, 0, none⟩) Hlu.out).trans Hcu.out
  clear hV9
  clear hU8 hU9
  go_wp2_with fail
  refine (I.not_ (I.below HS.out hb) n In.out).mono ?_
  rintro e v10 ⟨U10, un10, uc10, rfl, hU10, hV10⟩
  clear cs cu
  replace hb := hb.trans (hV10.mono hb.size)
  have cs := (hb.cell (p := ⟨Bs, 0, none⟩) Hls.out).trans Hcs.out
  have cu := (hb.cell (p := ⟨Bu, 0, none⟩) Hlu.out).trans Hcu.out
  clear hV10
  go_wp2_with fail
  refine (I.without_ hU10 8 ⟨by omega, by omega⟩).mono ?_
  rintro e v11 ⟨U11, un11, uc11, rfl, hU11, hV11⟩
  clear cs cu
  replace hb := hb.trans (hV11.mono hb.size)
  have cs := (hb.cell (p := ⟨Bs, 0, none⟩) Hls.out).trans Hcs.out
  have cu := (hb.cell (p := ⟨Bu, 0, none⟩) Hlu.out).trans Hcu.out
  clear hV11
  clear hU10 hU11
  have hxz := (Below.refl v11.heap.size v11).alloc (Nat.le_refl _) (.cells #[.slice none 0 0] 27)
  replace hb := hb.trans (hxz.mono hb.size)
  have cz := box1 v11 none 0 0
  have hlz : v11.heap.size < (v11.alloc (.cells #[.slice none 0 0] 27)).heap.size := by simp
  clear hxz cs cu
  go_wp2_with fail
  generalize v11.alloc (.cells #[.slice none 0 0] 27) = wz at *
  generalize v11.heap.size = Bz at *
  have Hb8 := Lib.hid (Hb7.out.trans (hb.mono Hb7.out.size))
  have HS := Lib.hid (I.below HS.out hb)
  have HT := Lib.hid (I.below HT.out hb)
  have HZ := Lib.hid (I.zero wz)
  have Hcs := Lib.hid ((hb.cell (p := ⟨Bs, 0, none⟩) Hls.out).trans Hcs.out)
  have Hct := Lib.hid ((hb.cell (p := ⟨Bt, 0, none⟩) Hlt.out).trans Hct.out)
  have Hcz := Lib.hid cz
  have Hls := Lib.hid (Nat.lt_of_lt_of_le Hls.out hb.size)
  have Hlt := Lib.hid (Nat.lt_of_lt_of_le Hlt.out hb.size)
  have Hlz := Lib.hid hlz
  clear hb cz hlz
  have hb := (Below.refl wz.heap.size wz).drew
  have hH : wz.drew.cell? ⟨Bs, 0, none⟩ = some (.slice A sn sc) ∧ wz.drew.cell? ⟨Bt, 0, none⟩ = some (.slice B tn tc) ∧ wz.drew.cell? ⟨Bz, 0, none⟩ = some (.slice none 0 0) := ⟨(hb.cell (p := ⟨Bs, 0, none⟩) Hls.out).trans Hcs.out, (hb.cell (p := ⟨Bt, 0, none⟩) Hlt.out).trans Hct.out, (hb.cell (p := ⟨Bz, 0, none⟩) Hlz.out).trans Hcz.out⟩
  refine wp_region_any (by kernel_rfl) ?_
  refine wpAny_of_held (S := fun w' => w'.cell? ⟨Bs, 0, none⟩ = some (.slice A sn sc) ∧ w'.cell? ⟨Bt, 0, none⟩ = some (.slice B tn tc) ∧ w'.cell? ⟨Bz, 0, none⟩ = some (.slice none 0 0)) _ _ _ _ ?_
  change wpAnyH _ _ _ _ _ 29 (Array.replicate 29 false) _ wz.drew
  refine Rt.take (i := 0) (d := 66) (v := (.agg #[.slice A sn sc])) rfl rfl (by kernel_rfl) (by kernel_rfl) (by kernel_rfl) (fun _ _ _ h => h) (Or.inl ⟨by rfl, ?_⟩) hH ?_
  · rintro w' ⟨s0, s1, s2⟩
    go_simp
  (try simp only [List.setIfInBounds_toArray, List.set_cons_zero, List.set_cons_succ])
  refine Rt.take (i := 1) (d := 67) (v := (.agg #[.slice B tn tc])) rfl rfl (by kernel_rfl) (by kernel_rfl) (by kernel_rfl) (fun _ _ _ h => h) (Or.inl ⟨by rfl, ?_⟩) hH ?_
  · rintro w' ⟨s0, s1, s2⟩
    go_simp
  (try simp only [List.setIfInBounds_toArray, List.set_cons_zero, List.set_cons_succ])
  refine wpAnyH_ready (rs := [2]) (by kernel_rfl) (by simp) ?_
  refine AllReadyH.cons rfl (fun K hK => ?_) AllReadyH.nil
  go_simp
  refine ((by have := I.same_ (I.below HS.out hb) (I.below HT.out hb); rwa [decide_eq_true rfl] at this : Calls Tryd.prog 28 _ _ fun e w'' => e = .returned (.bool true) ∧ Below _ _ w'')).mono ?_
  rintro q v12 ⟨rfl, hV12⟩
  replace hb := hb.trans (hV12.mono hb.size)
  clear hH hV12
  have hH : v12.cell? ⟨Bs, 0, none⟩ = some (.slice A sn sc) ∧ v12.cell? ⟨Bt, 0, none⟩ = some (.slice B tn tc) ∧ v12.cell? ⟨Bz, 0, none⟩ = some (.slice none 0 0) := ⟨(hb.cell (p := ⟨Bs, 0, none⟩) Hls.out).trans Hcs.out, (hb.cell (p := ⟨Bt, 0, none⟩) Hlt.out).trans Hct.out, (hb.cell (p := ⟨Bz, 0, none⟩) Hlz.out).trans Hcz.out⟩
  refine hK.out _ _ hH (fun _ => ?_)
  clear hK K
  (try simp only [Act.put, List.setIfInBounds_toArray, List.set_cons_zero, List.set_cons_succ])
  refine Rt.take (i := 3) (d := 69) (v := .bool true) rfl rfl (by kernel_rfl) (by kernel_rfl) (by kernel_rfl) (fun _ _ _ h => h) (Or.inl ⟨by rfl, ?_⟩) hH ?_
  · rintro w' ⟨s0, s1, s2⟩
    go_simp
  (try simp only [List.setIfInBounds_toArray, List.set_cons_zero, List.set_cons_succ])
  refine Rt.take (i := 4) (d := 70) (v := (.agg #[.slice none 0 0])) rfl rfl (by kernel_rfl) (by kernel_rfl) (by kernel_rfl) (fun _ _ _ h => h) (Or.inl ⟨by rfl, ?_⟩) hH ?_
  · rintro w' ⟨s0, s1, s2⟩
    go_simp
  (try simp only [List.setIfInBounds_toArray, List.set_cons_zero, List.set_cons_succ])
  refine wpAnyH_ready (rs := [5]) (by kernel_rfl) (by simp) ?_
  refine AllReadyH.cons rfl (fun K hK => ?_) AllReadyH.nil
  go_simp
  refine ((I.count_ (I.below HZ.out hb) : Calls Tryd.prog 25 _ _ fun e w'' => e = .returned (.int .i64 0) ∧ Below _ _ w'')).mono ?_
  rintro q v13 ⟨rfl, hV13⟩
  replace hb := hb.trans (hV13.mono hb.size)
  clear hH hV13
  have hH : v13.cell? ⟨Bs, 0, none⟩ = some (.slice A sn sc) ∧ v13.cell? ⟨Bt, 0, none⟩ = some (.slice B tn tc) ∧ v13.cell? ⟨Bz, 0, none⟩ = some (.slice none 0 0) := ⟨(hb.cell (p := ⟨Bs, 0, none⟩) Hls.out).trans Hcs.out, (hb.cell (p := ⟨Bt, 0, none⟩) Hlt.out).trans Hct.out, (hb.cell (p := ⟨Bz, 0, none⟩) Hlz.out).trans Hcz.out⟩
  refine hK.out _ _ hH (fun _ => ?_)
  clear hK K
  (try simp only [Act.put, List.setIfInBounds_toArray, List.set_cons_zero, List.set_cons_succ])
  refine Rt.take (i := 6) (d := 72) (v := .bool true) rfl rfl (by kernel_rfl) (by kernel_rfl) (by kernel_rfl) (fun _ _ _ h => h) (Or.inl ⟨by rfl, ?_⟩) hH ?_
  · rintro w' ⟨s0, s1, s2⟩
    go_simp
  (try simp only [List.setIfInBounds_toArray, List.set_cons_zero, List.set_cons_succ])
  refine Rt.take (i := 7) (d := 73) (v := .bool true) rfl rfl (by kernel_rfl) (by kernel_rfl) (by kernel_rfl) (fun _ _ _ h => h) (Or.inl ⟨by rfl, ?_⟩) hH ?_
  · rintro w' ⟨s0, s1, s2⟩
    go_simp
  (try simp only [List.setIfInBounds_toArray, List.set_cons_zero, List.set_cons_succ])
  refine Rt.take (i := 8) (d := 74) (v := .bool true) rfl rfl (by kernel_rfl) (by kernel_rfl) (by kernel_rfl) (fun _ _ _ h => h) (Or.inl ⟨by rfl, ?_⟩) hH ?_
  · rintro w' ⟨s0, s1, s2⟩
    go_simp
  (try simp only [List.setIfInBounds_toArray, List.set_cons_zero, List.set_cons_succ])
  refine Rt.take (i := 9) (d := 75) (v := (.agg #[.slice none 0 0])) rfl rfl (by kernel_rfl) (by kernel_rfl) (by kernel_rfl) (fun _ _ _ h => h) (Or.inl ⟨by rfl, ?_⟩) hH ?_
  · rintro w' ⟨s0, s1, s2⟩
    go_simp
  (try simp only [List.setIfInBounds_toArray, List.set_cons_zero, List.set_cons_succ])
  refine Rt.take (i := 10) (d := 76) (v := (.int .i64 i)) rfl rfl (by kernel_rfl) (by kernel_rfl) (by kernel_rfl) (fun _ _ _ h => h) (Or.inl ⟨by rfl, ?_⟩) hH ?_
  · rintro w' ⟨s0, s1, s2⟩
    go_simp
  (try simp only [List.setIfInBounds_toArray, List.set_cons_zero, List.set_cons_succ])
  refine wpAnyH_ready (rs := [11]) (by kernel_rfl) (by simp) ?_
  refine AllReadyH.cons rfl (fun K hK => ?_) AllReadyH.nil
  go_simp
  refine ((by have := I.has_ (I.below HZ.out hb) i Ii.out; rwa [decide_eq_false (by simp)] at this : Calls Tryd.prog 26 _ _ fun e w'' => e = .returned (.bool false) ∧ Below _ _ w'')).mono ?_
  rintro q v14 ⟨rfl, hV14⟩
  replace hb := hb.trans (hV14.mono hb.size)
  clear hH hV14
  have hH : v14.cell? ⟨Bs, 0, none⟩ = some (.slice A sn sc) ∧ v14.cell? ⟨Bt, 0, none⟩ = some (.slice B tn tc) ∧ v14.cell? ⟨Bz, 0, none⟩ = some (.slice none 0 0) := ⟨(hb.cell (p := ⟨Bs, 0, none⟩) Hls.out).trans Hcs.out, (hb.cell (p := ⟨Bt, 0, none⟩) Hlt.out).trans Hct.out, (hb.cell (p := ⟨Bz, 0, none⟩) Hlz.out).trans Hcz.out⟩
  refine hK.out _ _ hH (fun _ => ?_)
  clear hK K
  (try simp only [Act.put, List.setIfInBounds_toArray, List.set_cons_zero, List.set_cons_succ])
  refine Rt.take (i := 12) (d := 78) (v := .bool true) rfl rfl (by kernel_rfl) (by kernel_rfl) (by kernel_rfl) (fun _ _ _ h => h) (Or.inl ⟨by rfl, ?_⟩) hH ?_
  · rintro w' ⟨s0, s1, s2⟩
    go_simp
  (try simp only [List.setIfInBounds_toArray, List.set_cons_zero, List.set_cons_succ])
  refine Rt.take (i := 13) (d := 79) (v := .bool true) rfl rfl (by kernel_rfl) (by kernel_rfl) (by kernel_rfl) (fun _ _ _ h => h) (Or.inl ⟨by rfl, ?_⟩) hH ?_
  · rintro w' ⟨s0, s1, s2⟩
    go_simp
  (try simp only [List.setIfInBounds_toArray, List.set_cons_zero, List.set_cons_succ])
  refine Rt.take (i := 14) (d := 80) (v := .bool true) rfl rfl (by kernel_rfl) (by kernel_rfl) (by kernel_rfl) (fun _ _ _ h => h) (Or.inl ⟨by rfl, ?_⟩) hH ?_
  · rintro w' ⟨s0, s1, s2⟩
    go_simp
  (try simp only [List.setIfInBounds_toArray, List.set_cons_zero, List.set_cons_succ])
  refine Rt.take (i := 15) (d := 81) (v := (.agg #[.slice none 0 0])) rfl rfl (by kernel_rfl) (by kernel_rfl) (by kernel_rfl) (fun _ _ _ h => h) (Or.inl ⟨by rfl, ?_⟩) hH ?_
  · rintro w' ⟨s0, s1, s2⟩
    go_simp
  (try simp only [List.setIfInBounds_toArray, List.set_cons_zero, List.set_cons_succ])
  refine Rt.take (i := 16) (d := 82) (v := (.agg #[.slice A sn sc])) rfl rfl (by kernel_rfl) (by kernel_rfl) (by kernel_rfl) (fun _ _ _ h => h) (Or.inl ⟨by rfl, ?_⟩) hH ?_
  · rintro w' ⟨s0, s1, s2⟩
    go_simp
  (try simp only [List.setIfInBounds_toArray, List.set_cons_zero, List.set_cons_succ])
  refine Rt.take (i := 18) (d := 84) (v := (.agg #[.slice A sn sc])) rfl rfl (by kernel_rfl) (by kernel_rfl) (by kernel_rfl) (fun _ _ _ h => h) (Or.inl ⟨by rfl, ?_⟩) hH ?_
  · rintro w' ⟨s0, s1, s2⟩
    go_simp
  (try simp only [List.setIfInBounds_toArray, List.set_cons_zero, List.set_cons_succ])
  refine wpAnyH_ready (rs := [17]) (by kernel_rfl) (by simp) ?_
  refine AllReadyH.cons rfl (fun K hK => ?_) AllReadyH.nil
  go_simp
  refine (I.or_ (I.below HZ.out hb) (I.below HS.out hb)).mono ?_
  rintro q v15 ⟨U15, un15, uc15, rfl, hU15, hV15⟩
  replace hb := hb.trans (hV15.mono hb.size)
  clear hH hV15
  have hH : v15.cell? ⟨Bs, 0, none⟩ = some (.slice A sn sc) ∧ v15.cell? ⟨Bt, 0, none⟩ = some (.slice B tn tc) ∧ v15.cell? ⟨Bz, 0, none⟩ = some (.slice none 0 0) := ⟨(hb.cell (p := ⟨Bs, 0, none⟩) Hls.out).trans Hcs.out, (hb.cell (p := ⟨Bt, 0, none⟩) Hlt.out).trans Hct.out, (hb.cell (p := ⟨Bz, 0, none⟩) Hlz.out).trans Hcz.out⟩
  refine hK.out _ _ hH (fun _ => ?_)
  clear hK K
  (try simp only [Act.put, List.setIfInBounds_toArray, List.set_cons_zero, List.set_cons_succ])
  refine wpAnyH_ready (rs := [19]) (by kernel_rfl) (by simp) ?_
  refine AllReadyH.cons rfl (fun K hK => ?_) AllReadyH.nil
  go_simp
  refine ((by have := I.same_ hU15 (I.below HS.out hb); rwa [decide_eq_true (or_nil OX.out)] at this : Calls Tryd.prog 28 _ _ fun e w'' => e = .returned (.bool true) ∧ Below _ _ w'')).mono ?_
  rintro q v16 ⟨rfl, hV16⟩
  replace hb := hb.trans (hV16.mono hb.size)
  clear hH hV16
  have hH : v16.cell? ⟨Bs, 0, none⟩ = some (.slice A sn sc) ∧ v16.cell? ⟨Bt, 0, none⟩ = some (.slice B tn tc) ∧ v16.cell? ⟨Bz, 0, none⟩ = some (.slice none 0 0) := ⟨(hb.cell (p := ⟨Bs, 0, none⟩) Hls.out).trans Hcs.out, (hb.cell (p := ⟨Bt, 0, none⟩) Hlt.out).trans Hct.out, (hb.cell (p := ⟨Bz, 0, none⟩) Hlz.out).trans Hcz.out⟩
  refine hK.out _ _ hH (fun _ => ?_)
  clear hK K
  (try simp only [Act.put, List.setIfInBounds_toArray, List.set_cons_zero, List.set_cons_succ])
  refine Rt.take (i := 20) (d := 86) (v := .bool true) rfl rfl (by kernel_rfl) (by kernel_rfl) (by kernel_rfl) (fun _ _ _ h => h) (Or.inl ⟨by rfl, ?_⟩) hH ?_
  · rintro w' ⟨s0, s1, s2⟩
    go_simp
  (try simp only [List.setIfInBounds_toArray, List.set_cons_zero, List.set_cons_succ])
  refine Rt.take (i := 21) (d := 87) (v := .bool true) rfl rfl (by kernel_rfl) (by kernel_rfl) (by kernel_rfl) (fun _ _ _ h => h) (Or.inl ⟨by rfl, ?_⟩) hH ?_
  · rintro w' ⟨s0, s1, s2⟩
    go_simp
  (try simp only [List.setIfInBounds_toArray, List.set_cons_zero, List.set_cons_succ])
  refine Rt.take (i := 22) (d := 88) (v := (.agg #[.slice none 0 0])) rfl rfl (by kernel_rfl) (by kernel_rfl) (by kernel_rfl) (fun _ _ _ h => h) (Or.inl ⟨by rfl, ?_⟩) hH ?_
  · rintro w' ⟨s0, s1, s2⟩
    go_simp
  (try simp only [List.setIfInBounds_toArray, List.set_cons_zero, List.set_cons_succ])
  refine Rt.take (i := 23) (d := 89) (v := (.agg #[.slice A sn sc])) rfl rfl (by kernel_rfl) (by kernel_rfl) (by kernel_rfl) (fun _ _ _ h => h) (Or.inl ⟨by rfl, ?_⟩) hH ?_
  · rintro w' ⟨s0, s1, s2⟩
    go_simp
  (try simp only [List.setIfInBounds_toArray, List.set_cons_zero, List.set_cons_succ])
  refine wpAnyH_ready (rs := [24]) (by kernel_rfl) (by simp) ?_
  refine AllReadyH.cons rfl (fun K hK => ?_) AllReadyH.nil
  go_simp
  refine (I.and_ (I.below HZ.out hb) (I.below HS.out hb)).mono ?_
  rintro q v17 ⟨U17, un17, uc17, rfl, hU17, hV17⟩
  replace hb := hb.trans (hV17.mono hb.size)
  clear hH hV17
  have hH : v17.cell? ⟨Bs, 0, none⟩ = some (.slice A sn sc) ∧ v17.cell? ⟨Bt, 0, none⟩ = some (.slice B tn tc) ∧ v17.cell? ⟨Bz, 0, none⟩ = some (.slice none 0 0) := ⟨(hb.cell (p := ⟨Bs, 0, none⟩) Hls.out).trans Hcs.out, (hb.cell (p := ⟨Bt, 0, none⟩) Hlt.out).trans Hct.out, (hb.cell (p := ⟨Bz, 0, none⟩) Hlz.out).trans Hcz.out⟩
  refine hK.out _ _ hH (fun _ => ?_)
  clear hK K
  (try simp only [Act.put, List.setIfInBounds_toArray, List.set_cons_zero, List.set_cons_succ])
  refine wpAnyH_ready (rs := [25]) (by kernel_rfl) (by simp) ?_
  refine AllReadyH.cons rfl (fun K hK => ?_) AllReadyH.nil
  go_simp
  refine ((by have := I.count_ hU17; rwa [and_nil] at this : Calls Tryd.prog 25 _ _ fun e w'' => e = .returned (.int .i64 0) ∧ Below _ _ w'')).mono ?_
  rintro q v18 ⟨rfl, hV18⟩
  replace hb := hb.trans (hV18.mono hb.size)
  clear hH hV18
  have hH : v18.cell? ⟨Bs, 0, none⟩ = some (.slice A sn sc) ∧ v18.cell? ⟨Bt, 0, none⟩ = some (.slice B tn tc) ∧ v18.cell? ⟨Bz, 0, none⟩ = some (.slice none 0 0) := ⟨(hb.cell (p := ⟨Bs, 0, none⟩) Hls.out).trans Hcs.out, (hb.cell (p := ⟨Bt, 0, none⟩) Hlt.out).trans Hct.out, (hb.cell (p := ⟨Bz, 0, none⟩) Hlz.out).trans Hcz.out⟩
  refine hK.out _ _ hH (fun _ => ?_)
  clear hK K
  (try simp only [Act.put, List.setIfInBounds_toArray, List.set_cons_zero, List.set_cons_succ])
  refine Rt.take (i := 26) (d := 92) (v := .bool true) rfl rfl (by kernel_rfl) (by kernel_rfl) (by kernel_rfl) (fun _ _ _ h => h) (Or.inl ⟨by rfl, ?_⟩) hH ?_
  · rintro w' ⟨s0, s1, s2⟩
    go_simp
  (try simp only [List.setIfInBounds_toArray, List.set_cons_zero, List.set_cons_succ])
  refine Rt.take (i := 27) (d := 93) (v := .bool true) rfl rfl (by kernel_rfl) (by kernel_rfl) (by kernel_rfl) (fun _ _ _ h => h) (Or.inl ⟨by rfl, ?_⟩) hH ?_
  · rintro w' ⟨s0, s1, s2⟩
    go_simp
  (try simp only [List.setIfInBounds_toArray, List.set_cons_zero, List.set_cons_succ])
  refine Rt.take (i := 28) (d := 8) (v := .bool true) rfl rfl (by kernel_rfl) (by kernel_rfl) (by kernel_rfl) (fun _ _ _ h => h) (Or.inl ⟨by rfl, ?_⟩) hH ?_
  · rintro w' ⟨s0, s1, s2⟩
    go_simp
  (try simp only [List.setIfInBounds_toArray, List.set_cons_zero, List.set_cons_succ])
  refine wpAnyH_done (by kernel_rfl) ?_ _
  (try simp only [Exit.then])
  go_wp2_with fail
  go_ret
  exact ⟨rfl, Hb8.out.trans (hb.mono Hb8.out.size)⟩
end Lw
end Go.Proofs.YtgmjafammdkgfaaDoor
