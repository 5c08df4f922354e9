/- The walk of the statement BitsetOne of layer 9: a case of the number. -/
import Derived.Test.YtgmjafammdkgfaaDoorBsIfc
import Derived.Test.YtgmjafammdkgfaaDoorBsLen
import Derived.Test.YtgmjafammdkgfaaDoorRegTake
namespace Go.Proofs.YtgmjafammdkgfaaDoor
set_option maxRecDepth 20000
open Go.RowKit
namespace Lw
open Bi Bs Bx
variable {S : World → Option Addr → Nat → Nat → List Int → Prop}
set_option maxRecDepth 100000 in
set_option maxHeartbeats 16000000 in
theorem bitsetOne_new (I : Ifc S) (Aa : Option Addr) (na ca : Nat) (la : List Int) (i kk : Int) (w : World) (hTab : Tab w) (hSa : Wd.Sl w .i64 Aa na ca la) (i0 : -9223372036854775808 ≤ i) (i1 : i ≤ 9223372036854775807) (k0 : -9223372036854775808 ≤ kk) (k1 : kk ≤ 9223372036854775807) (hna : na ≤ 60) (h0 : 0 ≤ i) (h1 : i < 65536) (hi : i ∉ ofL la) :
    Calls Tryd.prog 6 #[.slice Aa na ca, .int .i64 i, .int .i64 kk] w fun e w' => e = .returned (.bool true) ∧ Below w.heap.size w w' := by
  have ha : adm i := ⟨h0, h1⟩
  have Ca := Lib.hid (awake_any I w hTab)
  have Ha := Lib.hid hSa
  have Ii := Lib.hid (show I64 i from ⟨i0, i1⟩)
  have Ik := Lib.hid (show I64 kk from ⟨k0, k1⟩)
  have g1 : ¬ (60 : Int) < na := by omega
  have HX60 := Lib.hid (show (ofL la).length ≤ 60 from Nat.le_trans (of_len la) (by rw [← Ha.out.len]; exact hna))
  have Ka := Lib.hid fun w' (hb : Below w.heap.size w w') => I.of_ Aa na ca la w' (Ha.out.below hb) (by omega)
  have OX := Lib.hid (of_ok la)
  generalize ofL la = X at *
  have Ha2 := Lib.hid ha
  have Hi := Lib.hid hi
  clear hTab hSa hna ha hi
  go_enter Tryd.func6, Tryd.ntmps6
  go_wp2_with fail
  refine (Ca.out).mono ?_
  rintro e w1 ⟨rfl, hb1⟩
  go_wp2_with fail
  refine (Ka.out w1 hb1).mono ?_
  rintro e w2 ⟨A, sn, sc, rfl, hS2, hB2⟩
  have hb2 := hb1.trans (hB2.mono hb1.size)
  have hx2 := (Below.refl w2.heap.size w2).alloc (Nat.le_refl _) (.cells #[.slice A sn sc] 27)
  have hS3 := I.below hS2 hx2
  have cs := box1 w2 A sn sc
  have hb3 := hb2.trans (hx2.mono hb2.size)
  have hls : w2.heap.size < (w2.alloc (.cells #[.slice A sn sc] 27)).heap.size := by simp
  clear hB2 hS2 hb2 hx2 hb1
  go_wp2_with fail
  generalize w2.alloc (.cells #[.slice A sn sc] 27) = w3 at *
  generalize w2.heap.size = Bs at *
  refine (I.with_ hS3 i Ii.out).mono ?_
  rintro e w4 ⟨B, tn, tc, rfl, hT4, hB4⟩
  have hb4 := hb3.trans (hB4.mono hb3.size)
  have hx5 := (Below.refl w4.heap.size w4).alloc (Nat.le_refl _) (.cells #[.slice B tn tc] 27)
  have h35 := hB4.trans (hx5.mono hB4.size)
  have hT5 := I.below hT4 hx5
  have hS5 := I.below hS3 h35
  have ct := box1 w4 B tn tc
  have cs5 := (h35.cell (p := ⟨Bs, 0, none⟩) hls).trans cs
  have hls5 := Nat.lt_of_lt_of_le hls h35.size
  have hlt5 : w4.heap.size < (w4.alloc (.cells #[.slice B tn tc] 27)).heap.size := by simp
  have hb5 := hb4.trans (hx5.mono hb4.size)
  clear hB4 hS3 cs hls hx5 hT4 hb4 hb3 Ka h35
  go_wp2_with fail
  generalize w4.alloc (.cells #[.slice B tn tc] 27) = w5 at *
  generalize w4.heap.size = Bt at *
  refine (I.without_ hS5 i Ii.out).mono ?_
  rintro e w6 ⟨D, un, uc, rfl, hU6, hB6⟩
  have hb6 := hb5.trans (hB6.mono hb5.size)
  have hx7 := (Below.refl w6.heap.size w6).alloc (Nat.le_refl _) (.cells #[.slice D un uc] 27)
  have h57 := hB6.trans (hx7.mono hB6.size)
  have HS := Lib.hid (I.below hS5 h57)
  have HT := Lib.hid (I.below hT5 h57)
  have HU := Lib.hid (I.below hU6 hx7)
  have Hcs := Lib.hid ((h57.cell (p := ⟨Bs, 0, none⟩) hls5).trans cs5)
  have Hct := Lib.hid ((h57.cell (p := ⟨Bt, 0, none⟩) hlt5).trans ct)
  have Hcu := Lib.hid (box1 w6 D un uc)
  have Hls := Lib.hid (Nat.lt_of_lt_of_le hls5 h57.size)
  have Hlt := Lib.hid (Nat.lt_of_lt_of_le hlt5 h57.size)
  have Hlu := Lib.hid (show w6.heap.size < (w6.alloc (.cells #[.slice D un uc] 27)).heap.size by simp)
  have Hb7 := Lib.hid (hb6.trans (hx7.mono hb6.size))
  clear hB6 hb6 hb5 h57 hS5 hT5 hU6 cs5 ct hls5 hlt5 hx7 Ha Ca
  go_wp2_with fail
  generalize w6.alloc (.cells #[.slice D un uc] 27) = wb at *
  generalize w6.heap.size = Bu at *
  have hb := (Below.refl wb.heap.size wb).drew
  by_cases hik : i = kk
  · subst hik
    have hH : wb.drew.cell? ⟨Bs, 0, none⟩ = some (.slice A sn sc) ∧ wb.drew.cell? ⟨Bt, 0, none⟩ = some (.slice B tn tc) ∧ wb.drew.cell? ⟨Bu, 0, none⟩ = some (.slice D un uc) := ⟨(hb.cell (p := ⟨Bs, 0, none⟩) Hls.out).trans Hcs.out, (hb.cell (p := ⟨Bt, 0, none⟩) Hlt.out).trans Hct.out, (hb.cell (p := ⟨Bu, 0, none⟩) Hlu.out).trans Hcu.out⟩
    refine wp_region_any (by kernel_rfl) ?_
    refine wpAny_of_held (S := fun w' => w'.cell? ⟨Bs, 0, none⟩ = some (.slice A sn sc) ∧ w'.cell? ⟨Bt, 0, none⟩ = some (.slice B tn tc) ∧ w'.cell? ⟨Bu, 0, none⟩ = some (.slice D un uc)) _ _ _ _ ?_
    change wpAnyH _ _ _ _ _ 33 (Array.replicate 33 false) _ wb.drew
    refine Rt.take (i := 0) (d := 37) (v := (.agg #[.slice B tn tc])) rfl rfl (by kernel_rfl) (by kernel_rfl) (by kernel_rfl) (fun _ _ _ h => h) (Or.inl ⟨by rfl, ?_⟩) hH ?_
    · rintro w' ⟨s0, s1, s2⟩
      go_simp
    (try simp only [List.setIfInBounds_toArray, List.set_cons_zero, List.set_cons_succ])
    refine Rt.take (i := 1) (d := 38) (v := (.int .i64 i)) rfl rfl (by kernel_rfl) (by kernel_rfl) (by kernel_rfl) (fun _ _ _ h => h) (Or.inl ⟨by rfl, ?_⟩) hH ?_
    · rintro w' ⟨s0, s1, s2⟩
      go_simp
    (try simp only [List.setIfInBounds_toArray, List.set_cons_zero, List.set_cons_succ])
    refine Rt.take (i := 3) (d := 40) (v := .bool true) rfl rfl (by kernel_rfl) (by kernel_rfl) (by kernel_rfl) (fun _ _ _ h => h) (Or.inl ⟨by rfl, ?_⟩) hH ?_
    · rintro w' ⟨s0, s1, s2⟩
      go_simp
    (try simp only [List.setIfInBounds_toArray, List.set_cons_zero, List.set_cons_succ])
    refine wpAnyH_ready (rs := [2]) (by kernel_rfl) (by simp) ?_
    refine AllReadyH.cons rfl (fun K hK => ?_) AllReadyH.nil
    go_simp
    refine ((by have := I.has_ (I.below HT.out hb) i Ii.out; rwa [show decide (i ∈ withL X i) = true by rw [decide_eq_true_eq, mem_with]; exact .inr ⟨rfl, Ha2.out⟩] at this : Calls Tryd.prog 26 _ _ fun e w'' => e = .returned (.bool true) ∧ Below _ _ w'')).mono ?_
    rintro q v1 ⟨rfl, hV1⟩
    replace hb := hb.trans (hV1.mono hb.size)
    clear hH hV1
    have hH : v1.cell? ⟨Bs, 0, none⟩ = some (.slice A sn sc) ∧ v1.cell? ⟨Bt, 0, none⟩ = some (.slice B tn tc) ∧ v1.cell? ⟨Bu, 0, none⟩ = some (.slice D un uc) := ⟨(hb.cell (p := ⟨Bs, 0, none⟩) Hls.out).trans Hcs.out, (hb.cell (p := ⟨Bt, 0, none⟩) Hlt.out).trans Hct.out, (hb.cell (p := ⟨Bu, 0, none⟩) Hlu.out).trans Hcu.out⟩
    refine hK.out _ _ hH (fun _ => ?_)
    clear hK K
    (try simp only [Act.put, List.setIfInBounds_toArray, List.set_cons_zero, List.set_cons_succ])
    refine Rt.take (i := 4) (d := 41) (v := .bool false) rfl rfl (by kernel_rfl) (by kernel_rfl) (by kernel_rfl) (fun _ _ _ h => h) (Or.inl ⟨by rfl, ?_⟩) hH ?_
    · rintro w' ⟨s0, s1, s2⟩
      go_simp
    (try simp only [List.setIfInBounds_toArray, List.set_cons_zero, List.set_cons_succ])
    refine Rt.take (i := 5) (d := 42) (v := .bool false) rfl rfl (by kernel_rfl) (by kernel_rfl) (by kernel_rfl) (fun _ _ _ h => h) (Or.inl ⟨by rfl, ?_⟩) hH ?_
    · rintro w' ⟨s0, s1, s2⟩
      go_simp
    (try simp only [List.setIfInBounds_toArray, List.set_cons_zero, List.set_cons_succ])
    refine Rt.take (i := 6) (d := 43) (v := (.agg #[.slice D un uc])) rfl rfl (by kernel_rfl) (by kernel_rfl) (by kernel_rfl) (fun _ _ _ h => h) (Or.inl ⟨by rfl, ?_⟩) hH ?_
    · rintro w' ⟨s0, s1, s2⟩
      go_simp
    (try simp only [List.setIfInBounds_toArray, List.set_cons_zero, List.set_cons_succ])
    refine Rt.take (i := 7) (d := 44) (v := (.int .i64 i)) rfl rfl (by kernel_rfl) (by kernel_rfl) (by kernel_rfl) (fun _ _ _ h => h) (Or.inl ⟨by rfl, ?_⟩) hH ?_
    · rintro w' ⟨s0, s1, s2⟩
      go_simp
    (try simp only [List.setIfInBounds_toArray, List.set_cons_zero, List.set_cons_succ])
    refine wpAnyH_ready (rs := [8]) (by kernel_rfl) (by simp) ?_
    refine AllReadyH.cons rfl (fun K hK => ?_) AllReadyH.nil
    go_simp
    refine ((by have := I.has_ (I.below HU.out hb) i Ii.out; rwa [show decide (i ∈ withoutL X i) = false by rw [decide_eq_false_iff_not, mem_without]; exact fun h => h.2 rfl] at this : Calls Tryd.prog 26 _ _ fun e w'' => e = .returned (.bool false) ∧ Below _ _ w'')).mono ?_
    rintro q v2 ⟨rfl, hV2⟩
    replace hb := hb.trans (hV2.mono hb.size)
    clear hH hV2
    have hH : v2.cell? ⟨Bs, 0, none⟩ = some (.slice A sn sc) ∧ v2.cell? ⟨Bt, 0, none⟩ = some (.slice B tn tc) ∧ v2.cell? ⟨Bu, 0, none⟩ = some (.slice D un uc) := ⟨(hb.cell (p := ⟨Bs, 0, none⟩) Hls.out).trans Hcs.out, (hb.cell (p := ⟨Bt, 0, none⟩) Hlt.out).trans Hct.out, (hb.cell (p := ⟨Bu, 0, none⟩) Hlu.out).trans Hcu.out⟩
    refine hK.out _ _ hH (fun _ => ?_)
    clear hK K
    (try simp only [Act.put, List.setIfInBounds_toArray, List.set_cons_zero, List.set_cons_succ])
    refine Rt.take (i := 9) (d := 46) (v := .bool false) rfl rfl (by kernel_rfl) (by kernel_rfl) (by kernel_rfl) (fun _ _ _ h => h) (Or.inl ⟨by rfl, ?_⟩) hH ?_
    · rintro w' ⟨s0, s1, s2⟩
      go_simp
    (try simp only [List.setIfInBounds_toArray, List.set_cons_zero, List.set_cons_succ])
    refine Rt.take (i := 10) (d := 47) (v := .bool false) rfl rfl (by kernel_rfl) (by kernel_rfl) (by kernel_rfl) (fun _ _ _ h => h) (Or.inl ⟨by rfl, ?_⟩) hH ?_
    · rintro w' ⟨s0, s1, s2⟩
      go_simp
    (try simp only [List.setIfInBounds_toArray, List.set_cons_zero, List.set_cons_succ])
    refine Rt.take (i := 11) (d := 48) (v := (.int .i64 i)) rfl rfl (by kernel_rfl) (by kernel_rfl) (by kernel_rfl) (fun _ _ _ h => h) (Or.inl ⟨by rfl, ?_⟩) hH ?_
    · rintro w' ⟨s0, s1, s2⟩
      go_simp
    (try simp only [List.setIfInBounds_toArray, List.set_cons_zero, List.set_cons_succ])
    refine Rt.take (i := 12) (d := 49) (v := (.int .i64 i)) rfl rfl (by kernel_rfl) (by kernel_rfl) (by kernel_rfl) (fun _ _ _ h => h) (Or.inl ⟨by rfl, ?_⟩) hH ?_
    · rintro w' ⟨s0, s1, s2⟩
      go_simp
    (try simp only [List.setIfInBounds_toArray, List.set_cons_zero, List.set_cons_succ])
    refine Rt.take (i := 13) (d := 50) (v := .bool false) rfl rfl (by kernel_rfl) (by kernel_rfl) (by kernel_rfl) (fun _ _ _ h => h) (Or.inl ⟨by rfl, ?_⟩) hH ?_
    · rintro w' ⟨s0, s1, s2⟩
      go_simp
    (try simp only [List.setIfInBounds_toArray, List.set_cons_zero, List.set_cons_succ])
    refine Rt.take (i := 14) (d := 51) (v := .bool false) rfl rfl (by kernel_rfl) (by kernel_rfl) (by kernel_rfl) (fun _ _ _ h => h) (Or.inl ⟨by rfl, ?_⟩) hH ?_
    · rintro w' ⟨s0, s1, s2⟩
      go_simp
    (try simp only [List.setIfInBounds_toArray, List.set_cons_zero, List.set_cons_succ])
    refine Rt.take (i := 15) (d := 52) (v := undef) rfl rfl (by kernel_rfl) (by kernel_rfl) (by kernel_rfl) (fun _ _ _ h => h) (Or.inr ⟨by rfl, rfl⟩) hH ?_
    (try simp only [List.setIfInBounds_toArray, List.set_cons_zero, List.set_cons_succ])
    refine Rt.take (i := 16) (d := 53) (v := undef) rfl rfl (by kernel_rfl) (by kernel_rfl) (by kernel_rfl) (fun _ _ _ h => h) (Or.inr ⟨by rfl, rfl⟩) hH ?_
    (try simp only [List.setIfInBounds_toArray, List.set_cons_zero, List.set_cons_succ])
    refine Rt.take (i := 17) (d := 54) (v := undef) rfl rfl (by kernel_rfl) (by kernel_rfl) (by kernel_rfl) (fun _ _ _ h => h) (Or.inr ⟨by rfl, rfl⟩) hH ?_
    (try simp only [List.setIfInBounds_toArray, List.set_cons_zero, List.set_cons_succ])
    refine Rt.take (i := 18) (d := 55) (v := undef) rfl rfl (by kernel_rfl) (by kernel_rfl) (by kernel_rfl) (fun _ _ _ h => h) (Or.inr ⟨by rfl, rfl⟩) hH ?_
    (try simp only [List.setIfInBounds_toArray, List.set_cons_zero, List.set_cons_succ])
    refine Rt.take (i := 19) (d := 56) (v := undef) rfl rfl (by kernel_rfl) (by kernel_rfl) (by kernel_rfl) (fun _ _ _ h => h) (Or.inr ⟨by rfl, rfl⟩) hH ?_
    (try simp only [List.setIfInBounds_toArray, List.set_cons_zero, List.set_cons_succ])
    refine Rt.take (i := 20) (d := 57) (v := undef) rfl rfl (by kernel_rfl) (by kernel_rfl) (by kernel_rfl) (fun _ _ _ h => h) (Or.inr ⟨by rfl, rfl⟩) hH ?_
    (try simp only [List.setIfInBounds_toArray, List.set_cons_zero, List.set_cons_succ])
    refine Rt.take (i := 21) (d := 58) (v := undef) rfl rfl (by kernel_rfl) (by kernel_rfl) (by kernel_rfl) (fun _ _ _ h => h) (Or.inr ⟨by rfl, rfl⟩) hH ?_
    (try simp only [List.setIfInBounds_toArray, List.set_cons_zero, List.set_cons_succ])
    refine Rt.take (i := 22) (d := 59) (v := undef) rfl rfl (by kernel_rfl) (by kernel_rfl) (by kernel_rfl) (fun _ _ _ h => h) (Or.inr ⟨by rfl, rfl⟩) hH ?_
    (try simp only [List.setIfInBounds_toArray, List.set_cons_zero, List.set_cons_succ])
    refine Rt.take (i := 23) (d := 60) (v := undef) rfl rfl (by kernel_rfl) (by kernel_rfl) (by kernel_rfl) (fun _ _ _ h => h) (Or.inr ⟨by rfl, rfl⟩) hH ?_
    (try simp only [List.setIfInBounds_toArray, List.set_cons_zero, List.set_cons_succ])
    refine Rt.take (i := 24) (d := 61) (v := undef) rfl rfl (by kernel_rfl) (by kernel_rfl) (by kernel_rfl) (fun _ _ _ h => h) (Or.inr ⟨by rfl, rfl⟩) hH ?_
    (try simp only [List.setIfInBounds_toArray, List.set_cons_zero, List.set_cons_succ])
    refine Rt.take (i := 25) (d := 62) (v := undef) rfl rfl (by kernel_rfl) (by kernel_rfl) (by kernel_rfl) (fun _ _ _ h => h) (Or.inr ⟨by rfl, rfl⟩) hH ?_
    (try simp only [List.setIfInBounds_toArray, List.set_cons_zero, List.set_cons_succ])
    refine Rt.take (i := 26) (d := 63) (v := undef) rfl rfl (by kernel_rfl) (by kernel_rfl) (by kernel_rfl) (fun _ _ _ h => h) (Or.inr ⟨by rfl, rfl⟩) hH ?_
    (try simp only [List.setIfInBounds_toArray, List.set_cons_zero, List.set_cons_succ])
    refine Rt.take (i := 27) (d := 64) (v := undef) rfl rfl (by kernel_rfl) (by kernel_rfl) (by kernel_rfl) (fun _ _ _ h => h) (Or.inr ⟨by rfl, rfl⟩) hH ?_
    (try simp only [List.setIfInBounds_toArray, List.set_cons_zero, List.set_cons_succ])
    refine Rt.take (i := 28) (d := 65) (v := undef) rfl rfl (by kernel_rfl) (by kernel_rfl) (by kernel_rfl) (fun _ _ _ h => h) (Or.inr ⟨by rfl, rfl⟩) hH ?_
    (try simp only [List.setIfInBounds_toArray, List.set_cons_zero, List.set_cons_succ])
    refine Rt.take (i := 29) (d := 66) (v := undef) rfl rfl (by kernel_rfl) (by kernel_rfl) (by kernel_rfl) (fun _ _ _ h => h) (Or.inr ⟨by rfl, rfl⟩) hH ?_
    (try simp only [List.setIfInBounds_toArray, List.set_cons_zero, List.set_cons_succ])
    refine Rt.take (i := 30) (d := 67) (v := undef) rfl rfl (by kernel_rfl) (by kernel_rfl) (by kernel_rfl) (fun _ _ _ h => h) (Or.inr ⟨by rfl, rfl⟩) hH ?_
    (try simp only [List.setIfInBounds_toArray, List.set_cons_zero, List.set_cons_succ])
    refine Rt.take (i := 31) (d := 68) (v := .bool false) rfl rfl (by kernel_rfl) (by kernel_rfl) (by kernel_rfl) (fun _ _ _ h => h) (Or.inl ⟨by rfl, ?_⟩) hH ?_
    · rintro w' ⟨s0, s1, s2⟩
      go_simp
    (try simp only [List.setIfInBounds_toArray, List.set_cons_zero, List.set_cons_succ])
    refine Rt.take (i := 32) (d := 69) (v := .bool false) rfl rfl (by kernel_rfl) (by kernel_rfl) (by kernel_rfl) (fun _ _ _ h => h) (Or.inl ⟨by rfl, ?_⟩) hH ?_
    · rintro w' ⟨s0, s1, s2⟩
      go_simp
    (try simp only [List.setIfInBounds_toArray, List.set_cons_zero, List.set_cons_succ])
    refine wpAnyH_done (by kernel_rfl) ?_ _
    (try simp only [Exit.then])
    clear hH
    have hH : v2.cell? ⟨Bs, 0, none⟩ = some (.slice A sn sc) ∧ v2.cell? ⟨Bt, 0, none⟩ = some (.slice B tn tc) ∧ v2.cell? ⟨Bu, 0, none⟩ = some (.slice D un uc) := ⟨(hb.cell (p := ⟨Bs, 0, none⟩) Hls.out).trans Hcs.out, (hb.cell (p := ⟨Bt, 0, none⟩) Hlt.out).trans Hct.out, (hb.cell (p := ⟨Bu, 0, none⟩) Hlu.out).trans Hcu.out⟩
    obtain ⟨cs, ct, cu⟩ := hH
    go_wp2_with fail
    refine ((by have := I.has_ (I.below HS.out hb) i Ii.out; rwa [decide_eq_false Hi.out] at this : Calls Tryd.prog 26 _ _ fun e w'' => e = .returned (.bool false) ∧ Below _ _ w'')).mono ?_
    rintro e v3 ⟨rfl, hV3⟩
    replace hb := hb.trans (hV3.mono hb.size)
    clear hV3 cs ct cu
    have hH : v3.cell? ⟨Bs, 0, none⟩ = some (.slice A sn sc) ∧ v3.cell? ⟨Bt, 0, none⟩ = some (.slice B tn tc) ∧ v3.cell? ⟨Bu, 0, none⟩ = some (.slice D un uc) := ⟨(hb.cell (p := ⟨Bs, 0, none⟩) Hls.out).trans Hcs.out, (hb.cell (p := ⟨Bt, 0, none⟩) Hlt.out).trans Hct.out, (hb.cell (p := ⟨Bu, 0, none⟩) Hlu.out).trans Hcu.out⟩
    obtain ⟨cs, ct, cu⟩ := hH
    go_wp2_with fail
    refine ((by have := I.has_ (I.below HS.out hb) i Ii.out; rwa [decide_eq_false Hi.out] at this : Calls Tryd.prog 26 _ _ fun e w'' => e = .returned (.bool false) ∧ Below _ _ w'')).mono ?_
    rintro e v4 ⟨rfl, hV4⟩
    replace hb := hb.trans (hV4.mono hb.size)
    clear hV4 cs ct cu
    have hH : v4.cell? ⟨Bs, 0, none⟩ = some (.slice A sn sc) ∧ v4.cell? ⟨Bt, 0, none⟩ = some (.slice B tn tc) ∧ v4.cell? ⟨Bu, 0, none⟩ = some (.slice D un uc) := ⟨(hb.cell (p := ⟨Bs, 0, none⟩) Hls.out).trans Hcs.out, (hb.cell (p := ⟨Bt, 0, none⟩) Hlt.out).trans Hct.out, (hb.cell (p := ⟨Bu, 0, none⟩) Hlu.out).trans Hcu.out⟩
    obtain ⟨cs, ct, cu⟩ := hH
    have HL1 := Lib.hid (with_len X i)
    have HL2 := Lib.hid (without_len OX.out i)
    obtain ⟨p0, hp0⟩ : ∃ q, q = X.length := ⟨_, rfl⟩
    obtain ⟨p1, hp1⟩ : ∃ q, q = (withL X i).length := ⟨_, rfl⟩
    obtain ⟨p2, hp2⟩ : ∃ q, q = (withoutL X i).length := ⟨_, rfl⟩
    have Hp0 := Lib.hid hp0
    have Hp1 := Lib.hid hp1
    have Hp2 := Lib.hid hp2
    have E1 : p1 = p0 + 1 := by
      rw [hp1, HL1.out, hp0, if_pos ⟨Ha2.out, Hi.out⟩]
    have E2 : p2 + 0 = p0 := by
      have := HL2.out
      rw [if_neg Hi.out] at this
      rw [hp2, hp0]
      exact this
    have hp60 : p0 ≤ 60 := by rw [hp0]; exact HX60.out
    have hw0 : IntKind.i64.wrap (p0 : Int) = (p0 : Int) := IntWalk.i64_in _ (by omega)
    have hw1 : IntKind.i64.wrap ((p0 : Int) + 1) = (p1 : Int) := by rw [E1]; exact IntWalk.i64_in _ (by omega)
    have hw2 : IntKind.i64.wrap ((p0 : Int) - 0) = (p2 : Int) := by rw [show (p0 : Int) - 0 = (p2 : Int) by omega]; exact IntWalk.i64_in _ (by omega)
    obtain rfl : p2 = p0 := E2
    clear hp0 hp1 hp2 cs ct cu
    go_wp2_with fail
    replace hb := hb.drew
    have hH : v4.drew.cell? ⟨Bs, 0, none⟩ = some (.slice A sn sc) ∧ v4.drew.cell? ⟨Bt, 0, none⟩ = some (.slice B tn tc) ∧ v4.drew.cell? ⟨Bu, 0, none⟩ = some (.slice D un uc) := ⟨(hb.cell (p := ⟨Bs, 0, none⟩) Hls.out).trans Hcs.out, (hb.cell (p := ⟨Bt, 0, none⟩) Hlt.out).trans Hct.out, (hb.cell (p := ⟨Bu, 0, none⟩) Hlu.out).trans Hcu.out⟩
    refine wp_region_any (by kernel_rfl) ?_
    refine wpAny_of_held (S := fun w' => w'.cell? ⟨Bs, 0, none⟩ = some (.slice A sn sc) ∧ w'.cell? ⟨Bt, 0, none⟩ = some (.slice B tn tc) ∧ w'.cell? ⟨Bu, 0, none⟩ = some (.slice D un uc)) _ _ _ _ ?_
    change wpAnyH _ _ _ _ _ 17 (Array.replicate 17 false) _ v4.drew
    refine Rt.take (i := 0) (d := 80) (v := (.agg #[.slice B tn tc])) rfl rfl (by kernel_rfl) (by kernel_rfl) (by kernel_rfl) (fun _ _ _ h => h) (Or.inl ⟨by rfl, ?_⟩) hH ?_
    · rintro w' ⟨s0, s1, s2⟩
      go_simp
    (try simp only [List.setIfInBounds_toArray, List.set_cons_zero, List.set_cons_succ])
    refine Rt.take (i := 2) (d := 82) (v := (.agg #[.slice A sn sc])) rfl rfl (by kernel_rfl) (by kernel_rfl) (by kernel_rfl) (fun _ _ _ h => h) (Or.inl ⟨by rfl, ?_⟩) hH ?_
    · rintro w' ⟨s0, s1, s2⟩
      go_simp
    (try simp only [List.setIfInBounds_toArray, List.set_cons_zero, List.set_cons_succ])
    refine Rt.take (i := 4) (d := 84) (v := (.int .i64 1)) rfl rfl (by kernel_rfl) (by kernel_rfl) (by kernel_rfl) (fun _ _ _ h => h) (Or.inl ⟨by rfl, ?_⟩) hH ?_
    · rintro w' ⟨s0, s1, s2⟩
      go_simp
    (try simp only [List.setIfInBounds_toArray, List.set_cons_zero, List.set_cons_succ])
    refine wpAnyH_ready (rs := [1]) (by kernel_rfl) (by simp) ?_
    refine AllReadyH.cons rfl (fun K hK => ?_) AllReadyH.nil
    go_simp
    refine ((by have := I.count_ (I.below HT.out hb); rwa [← Hp1.out] at this : Calls Tryd.prog 25 _ _ fun e w'' => e = .returned (.int .i64 (p1 : Int)) ∧ Below _ _ w'')).mono ?_
    rintro q v5 ⟨rfl, hV5⟩
    replace hb := hb.trans (hV5.mono hb.size)
    clear hH hV5
    have hH : v5.cell? ⟨Bs, 0, none⟩ = some (.slice A sn sc) ∧ v5.cell? ⟨Bt, 0, none⟩ = some (.slice B tn tc) ∧ v5.cell? ⟨Bu, 0, none⟩ = some (.slice D un uc) := ⟨(hb.cell (p := ⟨Bs, 0, none⟩) Hls.out).trans Hcs.out, (hb.cell (p := ⟨Bt, 0, none⟩) Hlt.out).trans Hct.out, (hb.cell (p := ⟨Bu, 0, none⟩) Hlu.out).trans Hcu.out⟩
    refine hK.out _ _ hH (fun _ => ?_)
    clear hK K
    (try simp only [Act.put, List.setIfInBounds_toArray, List.set_cons_zero, List.set_cons_succ])
    refine wpAnyH_ready (rs := [3]) (by kernel_rfl) (by simp) ?_
    refine AllReadyH.cons rfl (fun K hK => ?_) AllReadyH.nil
    go_simp
    refine ((by have := I.count_ (I.below HS.out hb); rwa [← Hp0.out] at this : Calls Tryd.prog 25 _ _ fun e w'' => e = .returned (.int .i64 (p2 : Int)) ∧ Below _ _ w'')).mono ?_
    rintro q v6 ⟨rfl, hV6⟩
    replace hb := hb.trans (hV6.mono hb.size)
    clear hH hV6
    have hH : v6.cell? ⟨Bs, 0, none⟩ = some (.slice A sn sc) ∧ v6.cell? ⟨Bt, 0, none⟩ = some (.slice B tn tc) ∧ v6.cell? ⟨Bu, 0, none⟩ = some (.slice D un uc) := ⟨(hb.cell (p := ⟨Bs, 0, none⟩) Hls.out).trans Hcs.out, (hb.cell (p := ⟨Bt, 0, none⟩) Hlt.out).trans Hct.out, (hb.cell (p := ⟨Bu, 0, none⟩) Hlu.out).trans Hcu.out⟩
    refine hK.out _ _ hH (fun _ => ?_)
    clear hK K
    (try simp only [Act.put, List.setIfInBounds_toArray, List.set_cons_zero, List.set_cons_succ])
    refine Rt.take (i := 5) (d := 85) (v := (.int .i64 p1)) rfl rfl (by kernel_rfl) (by kernel_rfl) (by kernel_rfl) (fun _ _ _ h => h) (Or.inl ⟨by rfl, ?_⟩) hH ?_
    · rintro w' ⟨s0, s1, s2⟩
      go_simp
    (try simp only [List.setIfInBounds_toArray, List.set_cons_zero, List.set_cons_succ])
    refine Rt.take (i := 6) (d := 86) (v := .bool true) rfl rfl (by kernel_rfl) (by kernel_rfl) (by kernel_rfl) (fun _ _ _ h => h) (Or.inl ⟨by rfl, ?_⟩) hH ?_
    · rintro w' ⟨s0, s1, s2⟩
      go_simp
    (try simp only [List.setIfInBounds_toArray, List.set_cons_zero, List.set_cons_succ])
    refine Rt.take (i := 7) (d := 87) (v := .bool true) rfl rfl (by kernel_rfl) (by kernel_rfl) (by kernel_rfl) (fun _ _ _ h => h) (Or.inl ⟨by rfl, ?_⟩) hH ?_
    · rintro w' ⟨s0, s1, s2⟩
      go_simp
    (try simp only [List.setIfInBounds_toArray, List.set_cons_zero, List.set_cons_succ])
    refine Rt.take (i := 8) (d := 88) (v := (.agg #[.slice D un uc])) rfl rfl (by kernel_rfl) (by kernel_rfl) (by kernel_rfl) (fun _ _ _ h => h) (Or.inl ⟨by rfl, ?_⟩) hH ?_
    · rintro w' ⟨s0, s1, s2⟩
      go_simp
    (try simp only [List.setIfInBounds_toArray, List.set_cons_zero, List.set_cons_succ])
    refine Rt.take (i := 10) (d := 90) (v := (.agg #[.slice A sn sc])) rfl rfl (by kernel_rfl) (by kernel_rfl) (by kernel_rfl) (fun _ _ _ h => h) (Or.inl ⟨by rfl, ?_⟩) hH ?_
    · rintro w' ⟨s0, s1, s2⟩
      go_simp
    (try simp only [List.setIfInBounds_toArray, List.set_cons_zero, List.set_cons_succ])
    refine Rt.take (i := 12) (d := 92) (v := (.int .i64 0)) rfl rfl (by kernel_rfl) (by kernel_rfl) (by kernel_rfl) (fun _ _ _ h => h) (Or.inl ⟨by rfl, ?_⟩) hH ?_
    · rintro w' ⟨s0, s1, s2⟩
      go_simp
    (try simp only [List.setIfInBounds_toArray, List.set_cons_zero, List.set_cons_succ])
    refine wpAnyH_ready (rs := [9]) (by kernel_rfl) (by simp) ?_
    refine AllReadyH.cons rfl (fun K hK => ?_) AllReadyH.nil
    go_simp
    refine ((by have := I.count_ (I.below HU.out hb); rwa [← Hp2.out] at this : Calls Tryd.prog 25 _ _ fun e w'' => e = .returned (.int .i64 (p2 : Int)) ∧ Below _ _ w'')).mono ?_
    rintro q v7 ⟨rfl, hV7⟩
    replace hb := hb.trans (hV7.mono hb.size)
    clear hH hV7
    have hH : v7.cell? ⟨Bs, 0, none⟩ = some (.slice A sn sc) ∧ v7.cell? ⟨Bt, 0, none⟩ = some (.slice B tn tc) ∧ v7.cell? ⟨Bu, 0, none⟩ = some (.slice D un uc) := ⟨(hb.cell (p := ⟨Bs, 0, none⟩) Hls.out).trans Hcs.out, (hb.cell (p := ⟨Bt, 0, none⟩) Hlt.out).trans Hct.out, (hb.cell (p := ⟨Bu, 0, none⟩) Hlu.out).trans Hcu.out⟩
    refine hK.out _ _ hH (fun _ => ?_)
    clear hK K
    (try simp only [Act.put, List.setIfInBounds_toArray, List.set_cons_zero, List.set_cons_succ])
    refine wpAnyH_ready (rs := [11]) (by kernel_rfl) (by simp) ?_
    refine AllReadyH.cons rfl (fun K hK => ?_) AllReadyH.nil
    go_simp
    refine ((by have := I.count_ (I.below HS.out hb); rwa [← Hp0.out] at this : Calls Tryd.prog 25 _ _ fun e w'' => e = .returned (.int .i64 (p2 : Int)) ∧ Below _ _ w'')).mono ?_
    rintro q v8 ⟨rfl, hV8⟩
    replace hb := hb.trans (hV8.mono hb.size)
    clear hH hV8
    have hH : v8.cell? ⟨Bs, 0, none⟩ = some (.slice A sn sc) ∧ v8.cell? ⟨Bt, 0, none⟩ = some (.slice B tn tc) ∧ v8.cell? ⟨Bu, 0, none⟩ = some (.slice D un uc) := ⟨(hb.cell (p := ⟨Bs, 0, none⟩) Hls.out).trans Hcs.out, (hb.cell (p := ⟨Bt, 0, none⟩) Hlt.out).trans Hct.out, (hb.cell (p := ⟨Bu, 0, none⟩) Hlu.out).trans Hcu.out⟩
    refine hK.out _ _ hH (fun _ => ?_)
    clear hK K
    (try simp only [Act.put, List.setIfInBounds_toArray, List.set_cons_zero, List.set_cons_succ])
    refine Rt.take (i := 13) (d := 93) (v := (.int .i64 p2)) rfl rfl (by kernel_rfl) (by kernel_rfl) (by kernel_rfl) (fun _ _ _ h => h) (Or.inl ⟨by rfl, ?_⟩) hH ?_
    · rintro w' ⟨s0, s1, s2⟩
      go_simp
    (try simp only [List.setIfInBounds_toArray, List.set_cons_zero, List.set_cons_succ])
    refine Rt.take (i := 14) (d := 94) (v := .bool true) rfl rfl (by kernel_rfl) (by kernel_rfl) (by kernel_rfl) (fun _ _ _ h => h) (Or.inl ⟨by rfl, ?_⟩) hH ?_
    · rintro w' ⟨s0, s1, s2⟩
      go_simp
    (try simp only [List.setIfInBounds_toArray, List.set_cons_zero, List.set_cons_succ])
    refine Rt.take (i := 15) (d := 95) (v := .bool true) rfl rfl (by kernel_rfl) (by kernel_rfl) (by kernel_rfl) (fun _ _ _ h => h) (Or.inl ⟨by rfl, ?_⟩) hH ?_
    · rintro w' ⟨s0, s1, s2⟩
      go_simp
    (try simp only [List.setIfInBounds_toArray, List.set_cons_zero, List.set_cons_succ])
    refine Rt.take (i := 16) (d := 6) (v := .bool true) rfl rfl (by kernel_rfl) (by kernel_rfl) (by kernel_rfl) (fun _ _ _ h => h) (Or.inl ⟨by rfl, ?_⟩) hH ?_
    · rintro w' ⟨s0, s1, s2⟩
      go_simp
    (try simp only [List.setIfInBounds_toArray, List.set_cons_zero, List.set_cons_succ])
    refine wpAnyH_done (by kernel_rfl) ?_ _
    (try simp only [Exit.then])
    go_wp2_with fail
    go_ret
    exact ⟨rfl, Hb7.out.trans (hb.mono Hb7.out.size)⟩
  · have hne : (i != kk) = true := by simpa using hik
    have Hne := Lib.hid hik
    obtain ⟨hk, hhk⟩ : ∃ q, q = decide (kk ∈ X) := ⟨_, rfl⟩
    have Hhk := Lib.hid hhk
    clear hhk hik
    have hH : wb.drew.cell? ⟨Bs, 0, none⟩ = some (.slice A sn sc) ∧ wb.drew.cell? ⟨Bt, 0, none⟩ = some (.slice B tn tc) ∧ wb.drew.cell? ⟨Bu, 0, none⟩ = some (.slice D un uc) := ⟨(hb.cell (p := ⟨Bs, 0, none⟩) Hls.out).trans Hcs.out, (hb.cell (p := ⟨Bt, 0, none⟩) Hlt.out).trans Hct.out, (hb.cell (p := ⟨Bu, 0, none⟩) Hlu.out).trans Hcu.out⟩
    refine wp_region_any (by kernel_rfl) ?_
    refine wpAny_of_held (S := fun w' => w'.cell? ⟨Bs, 0, none⟩ = some (.slice A sn sc) ∧ w'.cell? ⟨Bt, 0, none⟩ = some (.slice B tn tc) ∧ w'.cell? ⟨Bu, 0, none⟩ = some (.slice D un uc)) _ _ _ _ ?_
    change wpAnyH _ _ _ _ _ 33 (Array.replicate 33 false) _ wb.drew
    refine Rt.take (i := 0) (d := 37) (v := (.agg #[.slice B tn tc])) rfl rfl (by kernel_rfl) (by kernel_rfl) (by kernel_rfl) (fun _ _ _ h => h) (Or.inl ⟨by rfl, ?_⟩) hH ?_
    · rintro w' ⟨s0, s1, s2⟩
      go_simp
    (try simp only [List.setIfInBounds_toArray, List.set_cons_zero, List.set_cons_succ])
    refine Rt.take (i := 1) (d := 38) (v := (.int .i64 i)) rfl rfl (by kernel_rfl) (by kernel_rfl) (by kernel_rfl) (fun _ _ _ h => h) (Or.inl ⟨by rfl, ?_⟩) hH ?_
    · rintro w' ⟨s0, s1, s2⟩
      go_simp
    (try simp only [List.setIfInBounds_toArray, List.set_cons_zero, List.set_cons_succ])
    refine Rt.take (i := 3) (d := 40) (v := .bool true) rfl rfl (by kernel_rfl) (by kernel_rfl) (by kernel_rfl) (fun _ _ _ h => h) (Or.inl ⟨by rfl, ?_⟩) hH ?_
    · rintro w' ⟨s0, s1, s2⟩
      go_simp
    (try simp only [List.setIfInBounds_toArray, List.set_cons_zero, List.set_cons_succ])
    refine wpAnyH_ready (rs := [2]) (by kernel_rfl) (by simp) ?_
    refine AllReadyH.cons rfl (fun K hK => ?_) AllReadyH.nil
    go_simp
    refine ((by have := I.has_ (I.below HT.out hb) i Ii.out; rwa [show decide (i ∈ withL X i) = true by rw [decide_eq_true_eq, mem_with]; exact .inr ⟨rfl, Ha2.out⟩] at this : Calls Tryd.prog 26 _ _ fun e w'' => e = .returned (.bool true) ∧ Below _ _ w'')).mono ?_
    rintro q v9 ⟨rfl, hV9⟩
    replace hb := hb.trans (hV9.mono hb.size)
    clear hH hV9
    have hH : v9.cell? ⟨Bs, 0, none⟩ = some (.slice A sn sc) ∧ v9.cell? ⟨Bt, 0, none⟩ = some (.slice B tn tc) ∧ v9.cell? ⟨Bu, 0, none⟩ = some (.slice D un uc) := ⟨(hb.cell (p := ⟨Bs, 0, none⟩) Hls.out).trans Hcs.out, (hb.cell (p := ⟨Bt, 0, none⟩) Hlt.out).trans Hct.out, (hb.cell (p := ⟨Bu, 0, none⟩) Hlu.out).trans Hcu.out⟩
    refine hK.out _ _ hH (fun _ => ?_)
    clear hK K
    (try simp only [Act.put, List.setIfInBounds_toArray, List.set_cons_zero, List.set_cons_succ])
    refine Rt.take (i := 4) (d := 41) (v := .bool false) rfl rfl (by kernel_rfl) (by kernel_rfl) (by kernel_rfl) (fun _ _ _ h => h) (Or.inl ⟨by rfl, ?_⟩) hH ?_
    · rintro w' ⟨s0, s1, s2⟩
      go_simp
    (try simp only [List.setIfInBounds_toArray, List.set_cons_zero, List.set_cons_succ])
    refine Rt.take (i := 5) (d := 42) (v := .bool false) rfl rfl (by kernel_rfl) (by kernel_rfl) (by kernel_rfl) (fun _ _ _ h => h) (Or.inl ⟨by rfl, ?_⟩) hH ?_
    · rintro w' ⟨s0, s1, s2⟩
      go_simp
    (try simp only [List.setIfInBounds_toArray, List.set_cons_zero, List.set_cons_succ])
    refine Rt.take (i := 6) (d := 43) (v := (.agg #[.slice D un uc])) rfl rfl (by kernel_rfl) (by kernel_rfl) (by kernel_rfl) (fun _ _ _ h => h) (Or.inl ⟨by rfl, ?_⟩) hH ?_
    · rintro w' ⟨s0, s1, s2⟩
      go_simp
    (try simp only [List.setIfInBounds_toArray, List.set_cons_zero, List.set_cons_succ])
    refine Rt.take (i := 7) (d := 44) (v := (.int .i64 i)) rfl rfl (by kernel_rfl) (by kernel_rfl) (by kernel_rfl) (fun _ _ _ h => h) (Or.inl ⟨by rfl, ?_⟩) hH ?_
    · rintro w' ⟨s0, s1, s2⟩
      go_simp
    (try simp only [List.setIfInBounds_toArray, List.set_cons_zero, List.set_cons_succ])
    refine wpAnyH_ready (rs := [8]) (by kernel_rfl) (by simp) ?_
    refine AllReadyH.cons rfl (fun K hK => ?_) AllReadyH.nil
    go_simp
    refine ((by have := I.has_ (I.below HU.out hb) i Ii.out; rwa [show decide (i ∈ withoutL X i) = false by rw [decide_eq_false_iff_not, mem_without]; exact fun h => h.2 rfl] at this : Calls Tryd.prog 26 _ _ fun e w'' => e = .returned (.bool false) ∧ Below _ _ w'')).mono ?_
    rintro q v10 ⟨rfl, hV10⟩
    replace hb := hb.trans (hV10.mono hb.size)
    clear hH hV10
    have hH : v10.cell? ⟨Bs, 0, none⟩ = some (.slice A sn sc) ∧ v10.cell? ⟨Bt, 0, none⟩ = some (.slice B tn tc) ∧ v10.cell? ⟨Bu, 0, none⟩ = some (.slice D un uc) := ⟨(hb.cell (p := ⟨Bs, 0, none⟩) Hls.out).trans Hcs.out, (hb.cell (p := ⟨Bt, 0, none⟩) Hlt.out).trans Hct.out, (hb.cell (p := ⟨Bu, 0, none⟩) Hlu.out).trans Hcu.out⟩
    refine hK.out _ _ hH (fun _ => ?_)
    clear hK K
    (try simp only [Act.put, List.setIfInBounds_toArray, List.set_cons_zero, List.set_cons_succ])
    refine Rt.take (i := 9) (d := 46) (v := .bool false) rfl rfl (by kernel_rfl) (by kernel_rfl) (by kernel_rfl) (fun _ _ _ h => h) (Or.inl ⟨by rfl, ?_⟩) hH ?_
    · rintro w' ⟨s0, s1, s2⟩
      go_simp
    (try simp only [List.setIfInBounds_toArray, List.set_cons_zero, List.set_cons_succ])
    refine Rt.take (i := 10) (d := 47) (v := .bool false) rfl rfl (by kernel_rfl) (by kernel_rfl) (by kernel_rfl) (fun _ _ _ h => h) (Or.inl ⟨by rfl, ?_⟩) hH ?_
    · rintro w' ⟨s0, s1, s2⟩
      go_simp
    (try simp only [List.setIfInBounds_toArray, List.set_cons_zero, List.set_cons_succ])
    refine Rt.take (i := 11) (d := 48) (v := (.int .i64 i)) rfl rfl (by kernel_rfl) (by kernel_rfl) (by kernel_rfl) (fun _ _ _ h => h) (Or.inl ⟨by rfl, ?_⟩) hH ?_
    · rintro w' ⟨s0, s1, s2⟩
      go_simp
    (try simp only [List.setIfInBounds_toArray, List.set_cons_zero, List.set_cons_succ])
    refine Rt.take (i := 12) (d := 49) (v := (.int .i64 kk)) rfl rfl (by kernel_rfl) (by kernel_rfl) (by kernel_rfl) (fun _ _ _ h => h) (Or.inl ⟨by rfl, ?_⟩) hH ?_
    · rintro w' ⟨s0, s1, s2⟩
      go_simp
    (try simp only [List.setIfInBounds_toArray, List.set_cons_zero, List.set_cons_succ])
    refine Rt.take (i := 13) (d := 50) (v := .bool true) rfl rfl (by kernel_rfl) (by kernel_rfl) (by kernel_rfl) (fun _ _ _ h => h) (Or.inl ⟨by rfl, ?_⟩) hH ?_
    · rintro w' ⟨s0, s1, s2⟩
      go_simp
    (try simp only [List.setIfInBounds_toArray, List.set_cons_zero, List.set_cons_succ])
    refine Rt.take (i := 14) (d := 51) (v := .bool true) rfl rfl (by kernel_rfl) (by kernel_rfl) (by kernel_rfl) (fun _ _ _ h => h) (Or.inl ⟨by rfl, ?_⟩) hH ?_
    · rintro w' ⟨s0, s1, s2⟩
      go_simp
    (try simp only [List.setIfInBounds_toArray, List.set_cons_zero, List.set_cons_succ])
    refine Rt.take (i := 15) (d := 52) (v := (.agg #[.slice B tn tc])) rfl rfl (by kernel_rfl) (by kernel_rfl) (by kernel_rfl) (fun _ _ _ h => h) (Or.inl ⟨by rfl, ?_⟩) hH ?_
    · rintro w' ⟨s0, s1, s2⟩
      go_simp
    (try simp only [List.setIfInBounds_toArray, List.set_cons_zero, List.set_cons_succ])
    refine Rt.take (i := 16) (d := 53) (v := (.int .i64 kk)) rfl rfl (by kernel_rfl) (by kernel_rfl) (by kernel_rfl) (fun _ _ _ h => h) (Or.inl ⟨by rfl, ?_⟩) hH ?_
    · rintro w' ⟨s0, s1, s2⟩
      go_simp
    (try simp only [List.setIfInBounds_toArray, List.set_cons_zero, List.set_cons_succ])
    refine Rt.take (i := 18) (d := 55) (v := (.agg #[.slice A sn sc])) rfl rfl (by kernel_rfl) (by kernel_rfl) (by kernel_rfl) (fun _ _ _ h => h) (Or.inl ⟨by rfl, ?_⟩) hH ?_
    · rintro w' ⟨s0, s1, s2⟩
      go_simp
    (try simp only [List.setIfInBounds_toArray, List.set_cons_zero, List.set_cons_succ])
    refine Rt.take (i := 19) (d := 56) (v := (.int .i64 kk)) rfl rfl (by kernel_rfl) (by kernel_rfl) (by kernel_rfl) (fun _ _ _ h => h) (Or.inl ⟨by rfl, ?_⟩) hH ?_
    · rintro w' ⟨s0, s1, s2⟩
      go_simp
    (try simp only [List.setIfInBounds_toArray, List.set_cons_zero, List.set_cons_succ])
    refine wpAnyH_ready (rs := [17]) (by kernel_rfl) (by simp) ?_
    refine AllReadyH.cons rfl (fun K hK => ?_) AllReadyH.nil
    go_simp
    refine ((by have := I.has_ (I.below HT.out hb) kk Ik.out; rwa [show decide (kk ∈ withL X i) = hk by rw [Hhk.out]; exact decide_eq_decide.2 (by rw [mem_with]; exact ⟨fun h => h.elim id fun q => absurd q.1.symm Hne.out, .inl⟩)] at this : Calls Tryd.prog 26 _ _ fun e w'' => e = .returned (.bool hk) ∧ Below _ _ w'')).mono ?_
    rintro q v11 ⟨rfl, hV11⟩
    replace hb := hb.trans (hV11.mono hb.size)
    clear hH hV11
    have hH : v11.cell? ⟨Bs, 0, none⟩ = some (.slice A sn sc) ∧ v11.cell? ⟨Bt, 0, none⟩ = some (.slice B tn tc) ∧ v11.cell? ⟨Bu, 0, none⟩ = some (.slice D un uc) := ⟨(hb.cell (p := ⟨Bs, 0, none⟩) Hls.out).trans Hcs.out, (hb.cell (p := ⟨Bt, 0, none⟩) Hlt.out).trans Hct.out, (hb.cell (p := ⟨Bu, 0, none⟩) Hlu.out).trans Hcu.out⟩
    refine hK.out _ _ hH (fun _ => ?_)
    clear hK K
    (try simp only [Act.put, List.setIfInBounds_toArray, List.set_cons_zero, List.set_cons_succ])
    refine wpAnyH_ready (rs := [20]) (by kernel_rfl) (by simp) ?_
    refine AllReadyH.cons rfl (fun K hK => ?_) AllReadyH.nil
    go_simp
    refine ((by have := I.has_ (I.below HS.out hb) kk Ik.out; rwa [← Hhk.out] at this : Calls Tryd.prog 26 _ _ fun e w'' => e = .returned (.bool hk) ∧ Below _ _ w'')).mono ?_
    rintro q v12 ⟨rfl, hV12⟩
    replace hb := hb.trans (hV12.mono hb.size)
    clear hH hV12
    have hH : v12.cell? ⟨Bs, 0, none⟩ = some (.slice A sn sc) ∧ v12.cell? ⟨Bt, 0, none⟩ = some (.slice B tn tc) ∧ v12.cell? ⟨Bu, 0, none⟩ = some (.slice D un uc) := ⟨(hb.cell (p := ⟨Bs, 0, none⟩) Hls.out).trans Hcs.out, (hb.cell (p := ⟨Bt, 0, none⟩) Hlt.out).trans Hct.out, (hb.cell (p := ⟨Bu, 0, none⟩) Hlu.out).trans Hcu.out⟩
    refine hK.out _ _ hH (fun _ => ?_)
    clear hK K
    (try simp only [Act.put, List.setIfInBounds_toArray, List.set_cons_zero, List.set_cons_succ])
    refine Rt.take (i := 21) (d := 58) (v := .bool false) rfl rfl (by kernel_rfl) (by kernel_rfl) (by kernel_rfl) (fun _ _ _ h => h) (Or.inl ⟨by rfl, ?_⟩) hH ?_
    · rintro w' ⟨s0, s1, s2⟩
      go_simp
    (try simp only [List.setIfInBounds_toArray, List.set_cons_zero, List.set_cons_succ])
    refine Rt.take (i := 22) (d := 59) (v := .bool false) rfl rfl (by kernel_rfl) (by kernel_rfl) (by kernel_rfl) (fun _ _ _ h => h) (Or.inl ⟨by rfl, ?_⟩) hH ?_
    · rintro w' ⟨s0, s1, s2⟩
      go_simp
    (try simp only [List.setIfInBounds_toArray, List.set_cons_zero, List.set_cons_succ])
    refine Rt.take (i := 23) (d := 60) (v := (.agg #[.slice D un uc])) rfl rfl (by kernel_rfl) (by kernel_rfl) (by kernel_rfl) (fun _ _ _ h => h) (Or.inl ⟨by rfl, ?_⟩) hH ?_
    · rintro w' ⟨s0, s1, s2⟩
      go_simp
    (try simp only [List.setIfInBounds_toArray, List.set_cons_zero, List.set_cons_succ])
    refine Rt.take (i := 24) (d := 61) (v := (.int .i64 kk)) rfl rfl (by kernel_rfl) (by kernel_rfl) (by kernel_rfl) (fun _ _ _ h => h) (Or.inl ⟨by rfl, ?_⟩) hH ?_
    · rintro w' ⟨s0, s1, s2⟩
      go_simp
    (try simp only [List.setIfInBounds_toArray, List.set_cons_zero, List.set_cons_succ])
    refine Rt.take (i := 26) (d := 63) (v := (.agg #[.slice A sn sc])) rfl rfl (by kernel_rfl) (by kernel_rfl) (by kernel_rfl) (fun _ _ _ h => h) (Or.inl ⟨by rfl, ?_⟩) hH ?_
    · rintro w' ⟨s0, s1, s2⟩
      go_simp
    (try simp only [List.setIfInBounds_toArray, List.set_cons_zero, List.set_cons_succ])
    refine Rt.take (i := 27) (d := 64) (v := (.int .i64 kk)) rfl rfl (by kernel_rfl) (by kernel_rfl) (by kernel_rfl) (fun _ _ _ h => h) (Or.inl ⟨by rfl, ?_⟩) hH ?_
    · rintro w' ⟨s0, s1, s2⟩
      go_simp
    (try simp only [List.setIfInBounds_toArray, List.set_cons_zero, List.set_cons_succ])
    refine wpAnyH_ready (rs := [25]) (by kernel_rfl) (by simp) ?_
    refine AllReadyH.cons rfl (fun K hK => ?_) AllReadyH.nil
    go_simp
    refine ((by have := I.has_ (I.below HU.out hb) kk Ik.out; rwa [show decide (kk ∈ withoutL X i) = hk by rw [Hhk.out]; exact decide_eq_decide.2 (by rw [mem_without]; exact ⟨fun h => h.1, fun h => ⟨h, fun q => Hne.out q.symm⟩⟩)] at this : Calls Tryd.prog 26 _ _ fun e w'' => e = .returned (.bool hk) ∧ Below _ _ w'')).mono ?_
    rintro q v13 ⟨rfl, hV13⟩
    replace hb := hb.trans (hV13.mono hb.size)
    clear hH hV13
    have hH : v13.cell? ⟨Bs, 0, none⟩ = some (.slice A sn sc) ∧ v13.cell? ⟨Bt, 0, none⟩ = some (.slice B tn tc) ∧ v13.cell? ⟨Bu, 0, none⟩ = some (.slice D un uc) := ⟨(hb.cell (p := ⟨Bs, 0, none⟩) Hls.out).trans Hcs.out, (hb.cell (p := ⟨Bt, 0, none⟩) Hlt.out).trans Hct.out, (hb.cell (p := ⟨Bu, 0, none⟩) Hlu.out).trans Hcu.out⟩
    refine hK.out _ _ hH (fun _ => ?_)
    clear hK K
    (try simp only [Act.put, List.setIfInBounds_toArray, List.set_cons_zero, List.set_cons_succ])
    refine wpAnyH_ready (rs := [28]) (by kernel_rfl) (by simp) ?_
    refine AllReadyH.cons rfl (fun K hK => ?_) AllReadyH.nil
    go_simp
    refine ((by have := I.has_ (I.below HS.out hb) kk Ik.out; rwa [← Hhk.out] at this : Calls Tryd.prog 26 _ _ fun e w'' => e = .returned (.bool hk) ∧ Below _ _ w'')).mono ?_
    rintro q v14 ⟨rfl, hV14⟩
    replace hb := hb.trans (hV14.mono hb.size)
    clear hH hV14
    have hH : v14.cell? ⟨Bs, 0, none⟩ = some (.slice A sn sc) ∧ v14.cell? ⟨Bt, 0, none⟩ = some (.slice B tn tc) ∧ v14.cell? ⟨Bu, 0, none⟩ = some (.slice D un uc) := ⟨(hb.cell (p := ⟨Bs, 0, none⟩) Hls.out).trans Hcs.out, (hb.cell (p := ⟨Bt, 0, none⟩) Hlt.out).trans Hct.out, (hb.cell (p := ⟨Bu, 0, none⟩) Hlu.out).trans Hcu.out⟩
    refine hK.out _ _ hH (fun _ => ?_)
    clear hK K
    (try simp only [Act.put, List.setIfInBounds_toArray, List.set_cons_zero, List.set_cons_succ])
    refine Rt.take (i := 29) (d := 66) (v := .bool false) rfl rfl (by kernel_rfl) (by kernel_rfl) (by kernel_rfl) (fun _ _ _ h => h) (Or.inl ⟨by rfl, ?_⟩) hH ?_
    · rintro w' ⟨s0, s1, s2⟩
      go_simp
    (try simp only [List.setIfInBounds_toArray, List.set_cons_zero, List.set_cons_succ])
    refine Rt.take (i := 30) (d := 67) (v := .bool false) rfl rfl (by kernel_rfl) (by kernel_rfl) (by kernel_rfl) (fun _ _ _ h => h) (Or.inl ⟨by rfl, ?_⟩) hH ?_
    · rintro w' ⟨s0, s1, s2⟩
      go_simp
    (try simp only [List.setIfInBounds_toArray, List.set_cons_zero, List.set_cons_succ])
    refine Rt.take (i := 31) (d := 68) (v := .bool false) rfl rfl (by kernel_rfl) (by kernel_rfl) (by kernel_rfl) (fun _ _ _ h => h) (Or.inl ⟨by rfl, ?_⟩) hH ?_
    · rintro w' ⟨s0, s1, s2⟩
      go_simp
    (try simp only [List.setIfInBounds_toArray, List.set_cons_zero, List.set_cons_succ])
    refine Rt.take (i := 32) (d := 69) (v := .bool false) rfl rfl (by kernel_rfl) (by kernel_rfl) (by kernel_rfl) (fun _ _ _ h => h) (Or.inl ⟨by rfl, ?_⟩) hH ?_
    · rintro w' ⟨s0, s1, s2⟩
      go_simp
    (try simp only [List.setIfInBounds_toArray, List.set_cons_zero, List.set_cons_succ])
    refine wpAnyH_done (by kernel_rfl) ?_ _
    (try simp only [Exit.then])
    clear hH
    have hH : v14.cell? ⟨Bs, 0, none⟩ = some (.slice A sn sc) ∧ v14.cell? ⟨Bt, 0, none⟩ = some (.slice B tn tc) ∧ v14.cell? ⟨Bu, 0, none⟩ = some (.slice D un uc) := ⟨(hb.cell (p := ⟨Bs, 0, none⟩) Hls.out).trans Hcs.out, (hb.cell (p := ⟨Bt, 0, none⟩) Hlt.out).trans Hct.out, (hb.cell (p := ⟨Bu, 0, none⟩) Hlu.out).trans Hcu.out⟩
    obtain ⟨cs, ct, cu⟩ := hH
    go_wp2_with fail
    refine ((by have := I.has_ (I.below HS.out hb) i Ii.out; rwa [decide_eq_false Hi.out] at this : Calls Tryd.prog 26 _ _ fun e w'' => e = .returned (.bool false) ∧ Below _ _ w'')).mono ?_
    rintro e v15 ⟨rfl, hV15⟩
    replace hb := hb.trans (hV15.mono hb.size)
    clear hV15 cs ct cu
    have hH : v15.cell? ⟨Bs, 0, none⟩ = some (.slice A sn sc) ∧ v15.cell? ⟨Bt, 0, none⟩ = some (.slice B tn tc) ∧ v15.cell? ⟨Bu, 0, none⟩ = some (.slice D un uc) := ⟨(hb.cell (p := ⟨Bs, 0, none⟩) Hls.out).trans Hcs.out, (hb.cell (p := ⟨Bt, 0, none⟩) Hlt.out).trans Hct.out, (hb.cell (p := ⟨Bu, 0, none⟩) Hlu.out).trans Hcu.out⟩
    obtain ⟨cs, ct, cu⟩ := hH
    go_wp2_with fail
    refine ((by have := I.has_ (I.below HS.out hb) i Ii.out; rwa [decide_eq_false Hi.out] at this : Calls Tryd.prog 26 _ _ fun e w'' => e = .returned (.bool false) ∧ Below _ _ w'')).mono ?_
    rintro e v16 ⟨rfl, hV16⟩
    replace hb := hb.trans (hV16.mono hb.size)
    clear hV16 cs ct cu
    have hH : v16.cell? ⟨Bs, 0, none⟩ = some (.slice A sn sc) ∧ v16.cell? ⟨Bt, 0, none⟩ = some (.slice B tn tc) ∧ v16.cell? ⟨Bu, 0, none⟩ = some (.slice D un uc) := ⟨(hb.cell (p := ⟨Bs, 0, none⟩) Hls.out).trans Hcs.out, (hb.cell (p := ⟨Bt, 0, none⟩) Hlt.out).trans Hct.out, (hb.cell (p := ⟨Bu, 0, none⟩) Hlu.out).trans Hcu.out⟩
    obtain ⟨cs, ct, cu⟩ := hH
    have HL1 := Lib.hid (with_len X i)
    have HL2 := Lib.hid (without_len OX.out i)
    obtain ⟨p0, hp0⟩ : ∃ q, q = X.length := ⟨_, rfl⟩
    obtain ⟨p1, hp1⟩ : ∃ q, q = (withL X i).length := ⟨_, rfl⟩
    obtain ⟨p2, hp2⟩ : ∃ q, q = (withoutL X i).length := ⟨_, rfl⟩
    have Hp0 := Lib.hid hp0
    have Hp1 := Lib.hid hp1
    have Hp2 := Lib.hid hp2
    have E1 : p1 = p0 + 1 := by
      rw [hp1, HL1.out, hp0, if_pos ⟨Ha2.out, Hi.out⟩]
    have E2 : p2 + 0 = p0 := by
      have := HL2.out
      rw [if_neg Hi.out] at this
      rw [hp2, hp0]
      exact this
    have hp60 : p0 ≤ 60 := by rw [hp0]; exact HX60.out
    have hw0 : IntKind.i64.wrap (p0 : Int) = (p0 : Int) := IntWalk.i64_in _ (by omega)
    have hw1 : IntKind.i64.wrap ((p0 : Int) + 1) = (p1 : Int) := by rw [E1]; exact IntWalk.i64_in _ (by omega)
    have hw2 : IntKind.i64.wrap ((p0 : Int) - 0) = (p2 : Int) := by rw [show (p0 : Int) - 0 = (p2 : Int) by omega]; exact IntWalk.i64_in _ (by omega)
    obtain rfl : p2 = p0 := E2
    clear hp0 hp1 hp2 cs ct cu
    go_wp2_with fail
    replace hb := hb.drew
    have hH : v16.drew.cell? ⟨Bs, 0, none⟩ = some (.slice A sn sc) ∧ v16.drew.cell? ⟨Bt, 0, none⟩ = some (.slice B tn tc) ∧ v16.drew.cell? ⟨Bu, 0, none⟩ = some (.slice D un uc) := ⟨(hb.cell (p := ⟨Bs, 0, none⟩) Hls.out).trans Hcs.out, (hb.cell (p := ⟨Bt, 0, none⟩) Hlt.out).trans Hct.out, (hb.cell (p := ⟨Bu, 0, none⟩) Hlu.out).trans Hcu.out⟩
    refine wp_region_any (by kernel_rfl) ?_
    refine wpAny_of_held (S := fun w' => w'.cell? ⟨Bs, 0, none⟩ = some (.slice A sn sc) ∧ w'.cell? ⟨Bt, 0, none⟩ = some (.slice B tn tc) ∧ w'.cell? ⟨Bu, 0, none⟩ = some (.slice D un uc)) _ _ _ _ ?_
    change wpAnyH _ _ _ _ _ 17 (Array.replicate 17 false) _ v16.drew
    refine Rt.take (i := 0) (d := 80) (v := (.agg #[.slice B tn tc])) rfl rfl (by kernel_rfl) (by kernel_rfl) (by kernel_rfl) (fun _ _ _ h => h) (Or.inl ⟨by rfl, ?_⟩) hH ?_
    · rintro w' ⟨s0, s1, s2⟩
      go_simp
    (try simp only [List.setIfInBounds_toArray, List.set_cons_zero, List.set_cons_succ])
    refine Rt.take (i := 2) (d := 82) (v := (.agg #[.slice A sn sc])) rfl rfl (by kernel_rfl) (by kernel_rfl) (by kernel_rfl) (fun _ _ _ h => h) (Or.inl ⟨by rfl, ?_⟩) hH ?_
    · rintro w' ⟨s0, s1, s2⟩
      go_simp
    (try simp only [List.setIfInBounds_toArray, List.set_cons_zero, List.set_cons_succ])
    refine Rt.take (i := 4) (d := 84) (v := (.int .i64 1)) rfl rfl (by kernel_rfl) (by kernel_rfl) (by kernel_rfl) (fun _ _ _ h => h) (Or.inl ⟨by rfl, ?_⟩) hH ?_
    · rintro w' ⟨s0, s1, s2⟩
      go_simp
    (try simp only [List.setIfInBounds_toArray, List.set_cons_zero, List.set_cons_succ])
    refine wpAnyH_ready (rs := [1]) (by kernel_rfl) (by simp) ?_
    refine AllReadyH.cons rfl (fun K hK => ?_) AllReadyH.nil
    go_simp
    refine ((by have := I.count_ (I.below HT.out hb); rwa [← Hp1.out] at this : Calls Tryd.prog 25 _ _ fun e w'' => e = .returned (.int .i64 (p1 : Int)) ∧ Below _ _ w'')).mono ?_
    rintro q v17 ⟨rfl, hV17⟩
    replace hb := hb.trans (hV17.mono hb.size)
    clear hH hV17
    have hH : v17.cell? ⟨Bs, 0, none⟩ = some (.slice A sn sc) ∧ v17.cell? ⟨Bt, 0, none⟩ = some (.slice B tn tc) ∧ v17.cell? ⟨Bu, 0, none⟩ = some (.slice D un uc) := ⟨(hb.cell (p := ⟨Bs, 0, none⟩) Hls.out).trans Hcs.out, (hb.cell (p := ⟨Bt, 0, none⟩) Hlt.out).trans Hct.out, (hb.cell (p := ⟨Bu, 0, none⟩) Hlu.out).trans Hcu.out⟩
    refine hK.out _ _ hH (fun _ => ?_)
    clear hK K
    (try simp only [Act.put, List.setIfInBounds_toArray, List.set_cons_zero, List.set_cons_succ])
    refine wpAnyH_ready (rs := [3]) (by kernel_rfl) (by simp) ?_
    refine AllReadyH.cons rfl (fun K hK => ?_) AllReadyH.nil
    go_simp
    refine ((by have := I.count_ (I.below HS.out hb); rwa [← Hp0.out] at this : Calls Tryd.prog 25 _ _ fun e w'' => e = .returned (.int .i64 (p2 : Int)) ∧ Below _ _ w'')).mono ?_
    rintro q v18 ⟨rfl, hV18⟩
    replace hb := hb.trans (hV18.mono hb.size)
    clear hH hV18
    have hH : v18.cell? ⟨Bs, 0, none⟩ = some (.slice A sn sc) ∧ v18.cell? ⟨Bt, 0, none⟩ = some (.slice B tn tc) ∧ v18.cell? ⟨Bu, 0, none⟩ = some (.slice D un uc) := ⟨(hb.cell (p := ⟨Bs, 0, none⟩) Hls.out).trans Hcs.out, (hb.cell (p := ⟨Bt, 0, none⟩) Hlt.out).trans Hct.out, (hb.cell (p := ⟨Bu, 0, none⟩) Hlu.out).trans Hcu.out⟩
    refine hK.out _ _ hH (fun _ => ?_)
    clear hK K
    (try simp only [Act.put, List.setIfInBounds_toArray, List.set_cons_zero, List.set_cons_succ])
    refine Rt.take (i := 5) (d := 85) (v := (.int .i64 p1)) rfl rfl (by kernel_rfl) (by kernel_rfl) (by kernel_rfl) (fun _ _ _ h => h) (Or.inl ⟨by rfl, ?_⟩) hH ?_
    · rintro w' ⟨s0, s1, s2⟩
      go_simp
    (try simp only [List.setIfInBounds_toArray, List.set_cons_zero, List.set_cons_succ])
    refine Rt.take (i := 6) (d := 86) (v := .bool true) rfl rfl (by kernel_rfl) (by kernel_rfl) (by kernel_rfl) (fun _ _ _ h => h) (Or.inl ⟨by rfl, ?_⟩) hH ?_
    · rintro w' ⟨s0, s1, s2⟩
      go_simp
    (try simp only [List.setIfInBounds_toArray, List.set_cons_zero, List.set_cons_succ])
    refine Rt.take (i := 7) (d := 87) (v := .bool true) rfl rfl (by kernel_rfl) (by kernel_rfl) (by kernel_rfl) (fun _ _ _ h => h) (Or.inl ⟨by rfl, ?_⟩) hH ?_
    · rintro w' ⟨s0, s1, s2⟩
      go_simp
    (try simp only [List.setIfInBounds_toArray, List.set_cons_zero, List.set_cons_succ])
    refine Rt.take (i := 8) (d := 88) (v := (.agg #[.slice D un uc])) rfl rfl (by kernel_rfl) (by kernel_rfl) (by kernel_rfl) (fun _ _ _ h => h) (Or.inl ⟨by rfl, ?_⟩) hH ?_
    · rintro w' ⟨s0, s1, s2⟩
      go_simp
    (try simp only [List.setIfInBounds_toArray, List.set_cons_zero, List.set_cons_succ])
    refine Rt.take (i := 10) (d := 90) (v := (.agg #[.slice A sn sc])) rfl rfl (by kernel_rfl) (by kernel_rfl) (by kernel_rfl) (fun _ _ _ h => h) (Or.inl ⟨by rfl, ?_⟩) hH ?_
    · rintro w' ⟨s0, s1, s2⟩
      go_simp
    (try simp only [List.setIfInBounds_toArray, List.set_cons_zero, List.set_cons_succ])
    refine Rt.take (i := 12) (d := 92) (v := (.int .i64 0)) rfl rfl (by kernel_rfl) (by kernel_rfl) (by kernel_rfl) (fun _ _ _ h => h) (Or.inl ⟨by rfl, ?_⟩) hH ?_
    · rintro w' ⟨s0, s1, s2⟩
      go_simp
    (try simp only [List.setIfInBounds_toArray, List.set_cons_zero, List.set_cons_succ])
    refine wpAnyH_ready (rs := [9]) (by kernel_rfl) (by simp) ?_
    refine AllReadyH.cons rfl (fun K hK => ?_) AllReadyH.nil
    go_simp
    refine ((by have := I.count_ (I.below HU.out hb); rwa [← Hp2.out] at this : Calls Tryd.prog 25 _ _ fun e w'' => e = .returned (.int .i64 (p2 : Int)) ∧ Below _ _ w'')).mono ?_
    rintro q v19 ⟨rfl, hV19⟩
    replace hb := hb.trans (hV19.mono hb.size)
    clear hH hV19
    have hH : v19.cell? ⟨Bs, 0, none⟩ = some (.slice A sn sc) ∧ v19.cell? ⟨Bt, 0, none⟩ = some (.slice B tn tc) ∧ v19.cell? ⟨Bu, 0, none⟩ = some (.slice D un uc) := ⟨(hb.cell (p := ⟨Bs, 0, none⟩) Hls.out).trans Hcs.out, (hb.cell (p := ⟨Bt, 0, none⟩) Hlt.out).trans Hct.out, (hb.cell (p := ⟨Bu, 0, none⟩) Hlu.out).trans Hcu.out⟩
    refine hK.out _ _ hH (fun _ => ?_)
    clear hK K
    (try simp only [Act.put, List.setIfInBounds_toArray, List.set_cons_zero, List.set_cons_succ])
    refine wpAnyH_ready (rs := [11]) (by kernel_rfl) (by simp) ?_
    refine AllReadyH.cons rfl (fun K hK => ?_) AllReadyH.nil
    go_simp
    refine ((by have := I.count_ (I.below HS.out hb); rwa [← Hp0.out] at this : Calls Tryd.prog 25 _ _ fun e w'' => e = .returned (.int .i64 (p2 : Int)) ∧ Below _ _ w'')).mono ?_
    rintro q v20 ⟨rfl, hV20⟩
    replace hb := hb.trans (hV20.mono hb.size)
    clear hH hV20
    have hH : v20.cell? ⟨Bs, 0, none⟩ = some (.slice A sn sc) ∧ v20.cell? ⟨Bt, 0, none⟩ = some (.slice B tn tc) ∧ v20.cell? ⟨Bu, 0, none⟩ = some (.slice D un uc) := ⟨(hb.cell (p := ⟨Bs, 0, none⟩) Hls.out).trans Hcs.out, (hb.cell (p := ⟨Bt, 0, none⟩) Hlt.out).trans Hct.out, (hb.cell (p := ⟨Bu, 0, none⟩) Hlu.out).trans Hcu.out⟩
    refine hK.out _ _ hH (fun _ => ?_)
    clear hK K
    (try simp only [Act.put, List.setIfInBounds_toArray, List.set_cons_zero, List.set_cons_succ])
    refine Rt.take (i := 13) (d := 93) (v := (.int .i64 p2)) rfl rfl (by kernel_rfl) (by kernel_rfl) (by kernel_rfl) (fun _ _ _ h => h) (Or.inl ⟨by rfl, ?_⟩) hH ?_
    · rintro w' ⟨s0, s1, s2⟩
      go_simp
    (try simp only [List.setIfInBounds_toArray, List.set_cons_zero, List.set_cons_succ])
    refine Rt.take (i := 14) (d := 94) (v := .bool true) rfl rfl (by kernel_rfl) (by kernel_rfl) (by kernel_rfl) (fun _ _ _ h => h) (Or.inl ⟨by rfl, ?_⟩) hH ?_
    · rintro w' ⟨s0, s1, s2⟩
      go_simp
    (try simp only [List.setIfInBounds_toArray, List.set_cons_zero, List.set_cons_succ])
    refine Rt.take (i := 15) (d := 95) (v := .bool true) rfl rfl (by kernel_rfl) (by kernel_rfl) (by kernel_rfl) (fun _ _ _ h => h) (Or.inl ⟨by rfl, ?_⟩) hH ?_
    · rintro w' ⟨s0, s1, s2⟩
      go_simp
    (try simp only [List.setIfInBounds_toArray, List.set_cons_zero, List.set_cons_succ])
    refine Rt.take (i := 16) (d := 6) (v := .bool true) rfl rfl (by kernel_rfl) (by kernel_rfl) (by kernel_rfl) (fun _ _ _ h => h) (Or.inl ⟨by rfl, ?_⟩) hH ?_
    · rintro w' ⟨s0, s1, s2⟩
      go_simp
    (try simp only [List.setIfInBounds_toArray, List.set_cons_zero, List.set_cons_succ])
    refine wpAnyH_done (by kernel_rfl) ?_ _
    (try simp only [Exit.then])
    go_wp2_with fail
    go_ret
    exact ⟨rfl, Hb7.out.trans (hb.mono Hb7.out.size)⟩
end Lw
end Go.Proofs.YtgmjafammdkgfaaDoor
