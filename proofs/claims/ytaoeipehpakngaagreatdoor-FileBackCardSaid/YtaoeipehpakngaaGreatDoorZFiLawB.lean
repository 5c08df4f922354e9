/- The walk of the statement FileBack of layer 13. -/
import Derived.Deep.RegionHeld3
import Derived.Deep.DeepCutAuto
import Derived.Test.YtaoeipehpakngaaGreatDoorPb43
import Derived.Test.YtaoeipehpakngaaGreatDoorPb08
import Derived.Test.YtaoeipehpakngaaGreatDoorPb10
import Derived.Test.YtaoeipehpakngaaGreatDoorPb26
namespace Go.Proofs.YtaoeipehpakngaaGreatDoor
set_option maxRecDepth 20000
open Go.RowKit
namespace Lw
open Se (Seg Sg Gb Bm Ok LightG Lt)
open Fi
open Sc (Sch MayS tr tr_yes tr_no tr_iff)
open Sx (Sb five FewS)
open Wd (Cr)
set_option maxHeartbeats 16000000 in
theorem fileBack_walk (A : Option Addr) (n c : Nat) (s : Sch) (OA : Option Addr) (on oc : Nat) (CA : Option Addr) (cn cc : Nat) (os : List Cr) (x : Seg) (cut : Int) (M : Option Addr) (m d : Nat) (ms : List Int) (w : World) (hS : Wd.Cs w A n c s.cols) (_u : Wd.Sch1 s) (hX : Sg w OA on oc CA cn cc os x) (_hi0 : -9223372036854775808 ≤ cut) (_hi1 : cut ≤ 9223372036854775807) (hM : Wd.Sl w .u8 M m d ms) (hF : Wd.Fits .u8 ms) :
    Calls Tryz.prog 4 #[.agg #[.slice A n c, .int .i64 s.key, .int .i64 s.cmp, .int .i64 s.del, .int .i64 s.sort], .agg #[.int .i64 x.part, .int .i64 x.id, .int .i64 x.st, .int .i64 x.en, .slice OA on oc, .slice CA cn cc], .int .i64 cut, .slice M m d] w fun e w' => e = .returned (.bool true) ∧ Below w.heap.size w w' := by
  obtain ⟨i0, hi, hz0, hz1, hz2⟩ := info_parts Cx.info_y
  have h1 := boxes w A n c s OA on oc CA cn cc x
  obtain ⟨w1, hw1⟩ : ∃ w1, w1 = (w.alloc (.cells #[.slice A n c, .int .i64 s.key, .int .i64 s.cmp, .int .i64 s.del, .int .i64 s.sort] 24)).alloc (.cells #[.int .i64 x.part, .int .i64 x.id, .int .i64 x.st, .int .i64 x.en, .slice OA on oc, .slice CA cn cc] 28) := ⟨_, rfl⟩
  rw [← hw1] at h1
  have H1 := Lib.hid h1
  have Hw1 := Lib.hid hw1
  have HS := Lib.hid hS
  have HX := Lib.hid hX
  have Hn := Lib.hid hS.len
  have Hcn := Lib.hid hX.num
  have Hon := Lib.hid hX.offs.len
  have Ca := Lib.hid (awake_any w1)
  have HM := Lib.hid hM
  have Hm := Lib.hid hM.len
  have HF := Lib.hid (byt_of hF)
  clear hM hF
  clear hw1 h1 hS hX
  go_enter Tryz.func4, Tryz.ntmps4
  go_upto_region 1 with fail
  rw [← Hw1.out]
  go_wp2_with fail
  refine Ca.out.mono ?_
  rintro e w2 ⟨rfl, hB2⟩
  have H2 := Lib.hid (H1.out.below hB2)
  have Cf := Lib.hid (Sx.Few_any A n c s w2 (HS.out.below H2.out.b))
  obtain ⟨v1, hv1⟩ : ∃ v1, v1 = tr (FewS s) := ⟨_, rfl⟩
  rw [← hv1] at Cf
  have Hv1 := Lib.hid hv1
  obtain ⟨c0, c1, c2, c3, c4⟩ := five H2.out.s
  clear hB2 Ca hv1
  go_wp2_with fail
  refine Cf.out.mono ?_
  rintro e w3 ⟨rfl, hB3⟩
  have H3 := Lib.hid (H2.out.below hB3)
  have Cl := Lib.hid (Se.refLight_any OA on oc CA cn cc os x w3 (HX.out.below H3.out.b))
  obtain ⟨v2, hv2⟩ : ∃ v2, v2 = tr (LightG x) := ⟨_, rfl⟩
  rw [← hv2] at Cl
  have Hv2 := Lib.hid hv2
  clear hB3 c0 c1 c2 c3 c4 Cf hv2
  obtain ⟨d0, d1, d2, d3, d4, d5⟩ := Gb.six H3.out.x
  go_wp2_with fail
  refine Cl.out.mono ?_
  rintro e w4 ⟨rfl, hB4⟩
  have H4 := Lib.hid (H3.out.below hB4)
  clear hB4 d0 d1 d2 d3 d4 d5 Cl
  cases v1
  case false =>
    go_wp2_with fail
    go_ret
    exact ⟨rfl, H4.out.b⟩
  cases v2
  case false =>
    go_wp2_with fail
    go_ret
    exact ⟨rfl, H4.out.b⟩
  by_cases hm : 100 < m
  case pos =>
    have q0 : decide ((100 : Int) < (m : Int)) = true := by simp; omega
    have q1 : decide (100 < m) = true := by simp; omega
    go_wp2_with fail
    go_ret
    exact ⟨rfl, H4.out.b⟩
  have q0 : decide ((100 : Int) < (m : Int)) = false := by simp; omega
  have q1 : decide (100 < m) = false := by simp; omega
  have hfew := (tr_iff (p := FewS s)).1 Hv1.out.symm
  have hli := (tr_iff (p := LightG x)).1 Hv2.out.symm
  have hn : n ≤ 12 := by have := hfew.1; have := Hn.out; omega
  have hcn : cn ≤ 12 := by have := hli.2.1; have := Hcn.out; omega
  have hon : on ≤ 200 := by have := hli.1; have := Hon.out; omega
  have Hlt := Lib.hid (lt_light HX.out hli)
  have Hli := Lib.hid hli
  obtain ⟨c0, c1, c2, c3, c4⟩ := five H4.out.s
  obtain ⟨d0, d1, d2, d3, d4, d5⟩ := Gb.six H4.out.x
  clear hfew hli Hv1 Hv2
  by_cases hok : Ok s x
  case neg =>
    have C1 := Lib.hid (Encode_no A n c s OA on oc CA cn cc os x w4 (HS.out.below H4.out.b) (HX.out.below H4.out.b) Hlt.out (by omega) (by omega) (by omega) hok)
    clear hok
    go_wp2_with fail
    refine C1.out.mono ?_
    rintro e w5 ⟨rfl, hB5⟩
    have H5 := Lib.hid (H4.out.below hB5)
    clear hB5 C1 c0 c1 c2 c3 c4 d0 d1 d2 d3 d4 d5
    go_wp2_with fail
    go_ret
    exact ⟨rfl, H5.out.b⟩
  have HG := Lib.hid (light_good HX.out hok Hli.out)
  have C1 := Lib.hid (Encode_yes A n c s OA on oc CA cn cc os x w4 (HS.out.below H4.out.b) (HX.out.below H4.out.b) Hlt.out (by omega) (by omega) (by omega) hok HG.out)
  have Hok := Lib.hid hok
  clear hok q0 q1
  go_wp2_with fail
  refine C1.out.mono ?_
  rintro e w5 ⟨B5, n5, c5, rfl, hS5, hB5⟩
  have H5 := Lib.hid (H4.out.below hB5)
  have HS5 := Lib.hid hS5
  have H5n := Lib.hid hS5.len
  have Cd := Lib.hid (Decode_yes A n c s B5 n5 c5 x w5 (HS.out.below H5.out.b) Hok.out HG.out (by omega) Hli.out hS5)
  clear hS5 hB5 C1 c0 c1 c2 c3 c4 d0 d1 d2 d3 d4 d5
  obtain ⟨c0, c1, c2, c3, c4⟩ := five H5.out.s
  go_wp2_with fail
  refine Cd.out.mono ?_
  rintro e w6 ⟨PA, pn, pc, DA, dn, dc, ps, rfl, hY6, hB6⟩
  have al7 := (Below.refl w6.heap.size w6).alloc (Nat.le_refl _) (.cells #[.int .i64 x.part, .int .i64 x.id, .int .i64 x.st, .int .i64 x.en, .slice PA pn pc, .slice DA dn dc] 28)
  have y7 := Gb.new w6 x.part x.id x.st x.en PA pn pc DA dn dc
  obtain ⟨w7, hw7⟩ : ∃ w7, w7 = w6.alloc (.cells #[.int .i64 x.part, .int .i64 x.id, .int .i64 x.st, .int .i64 x.en, .slice PA pn pc, .slice DA dn dc] 28) := ⟨_, rfl⟩
  rw [← hw7] at al7 y7
  have h57 := hB6.trans (al7.mono hB6.size)
  have H7 := Lib.hid (H5.out.below h57)
  have HS7 := Lib.hid (HS5.out.below h57)
  have Y7 := Lib.hid y7
  have Cm := Se.refSame_any OA on oc CA cn cc os x PA pn pc DA dn dc ps x w7 (HX.out.below H7.out.b) (hY6.below al7)
  rw [tr_yes rfl] at Cm
  have Cm := Lib.hid Cm
  have Hw7 := Lib.hid hw7
  clear hw7 hY6 hB6 al7 y7 h57 Cd c0 c1 c2 c3 c4
  obtain ⟨d0, d1, d2, d3, d4, d5⟩ := Gb.six H7.out.x
  obtain ⟨e0, e1, e2, e3, e4, e5⟩ := Gb.six Y7.out
  go_upto_region 10 with fail
  rw [← Hw7.out]
  go_wp2_with fail
  refine Cm.out.mono ?_
  rintro e w8 ⟨rfl, hB8⟩
  have H8 := Lib.hid (H7.out.below hB8)
  have HS8 := Lib.hid (HS7.out.below hB8)
  have hcap5 := HS8.out.cap
  have hmax5 := HS8.out.max
  unfold maxLen at hmax5
  clear hB8 Cm d0 d1 d2 d3 d4 d5 e0 e1 e2 e3 e4 e5
  by_cases hc1 : 0 ≤ cut ∧ cut < (n5 : Int)
  case pos =>
    obtain ⟨hc1, hc2⟩ := hc1
    obtain ⟨q, rfl⟩ := Int.eq_ofNat_of_zero_le hc1
    have hq : q < n5 := by omega
    have Hbad := Lib.hid (bad_cut HG.out (k := q) (by rw [← H5n.out]; exact hq))
    have hh := HS8.out.head q (by omega)
    have Hh := Lib.hid hh
    have Hby := Lib.hid (show Nm.Byt ((fileB x).take q) from fun z hz => file_byt HG.out z (List.mem_of_mem_take hz))
    have i1 : (0 : Int) ≤ (q : Int) := hc1
    have i2 : (q : Int) < (n5 : Int) := hc2
    have i3 : (q : Int) ≤ (c5 : Int) := by omega
    have hlen : q = ((fileB x).take q).length := by rw [List.length_take, ← H5n.out]; omega
    have Hlen := Lib.hid hlen
    have hq2 : q ≤ 1000000 := by have := HG.out.len; have := H5n.out; omega
    clear hh hlen hc1 hc2
    go_upto_region 12 with fail
    go_cut [18] (fun v wz => v = .int .i64 7 ∧ Below w8.heap.size w8 wz)
    case first =>
      have ZZ := Lib.hid (fun (W : World) (hb : Below w8.heap.size w8 W) => five (H8.out.below hb).s)
      have CC := Lib.hid (fun (W : World) (hb : Below w8.heap.size w8 W) => Decode_no A n c s B5 q c5 x W (HS.out.below (H8.out.b.trans (hb.mono H8.out.b.size))) Hok.out HG.out (by omega) _ (Hh.out.below hb) Hby.out hq2 (by rw [← Hlen.out]; exact Hbad.out))
      refine wp_region_any (by kernel_rfl) ?_
      refine wpAny_of_held (S := fun w' => w'.cell? ⟨w.heap.size, 0, none⟩ = some (.slice A n c) ∧ w'.cell? ⟨w.heap.size, 1, none⟩ = some (.int .i64 s.key) ∧ w'.cell? ⟨w.heap.size, 2, none⟩ = some (.int .i64 s.cmp) ∧ w'.cell? ⟨w.heap.size, 3, none⟩ = some (.int .i64 s.del) ∧ w'.cell? ⟨w.heap.size, 4, none⟩ = some (.int .i64 s.sort)) _ _ _ _ ?_
      change wpAnyH _ _ _ _ _ 11 (Array.replicate 11 false) _ w8.drew
      have hb0 : Below w8.heap.size w8 w8.drew := (Below.refl _ _).drew
      generalize w8.drew = W0 at hb0 ⊢
      refine Rt.take (i := 0) (d := 75) (v := (.agg #[.slice A n c, .int .i64 s.key, .int .i64 s.cmp, .int .i64 s.del, .int .i64 s.sort])) rfl rfl (by kernel_rfl) (by kernel_rfl) (by kernel_rfl) (fun _ _ _ h => h) (Or.inl ⟨by rfl, ?_⟩) (ZZ.out _ hb0) ?_
      · rintro w' ⟨z0, z1, z2, z3, z4⟩
        go_simp
      (try simp only [List.setIfInBounds_toArray, List.set_cons_zero, List.set_cons_succ])
      refine Rt.take (i := 1) (d := 76) (v := (.slice B5 n5 c5)) rfl rfl (by kernel_rfl) (by kernel_rfl) (by kernel_rfl) (fun _ _ _ h => h) (Or.inl ⟨by rfl, ?_⟩) (ZZ.out _ hb0) ?_
      · rintro w' ⟨z0, z1, z2, z3, z4⟩
        go_simp
      (try simp only [List.setIfInBounds_toArray, List.set_cons_zero, List.set_cons_succ])
      refine Rt.take (i := 2) (d := 77) (v := (.int .i64 (q : Int))) rfl rfl (by kernel_rfl) (by kernel_rfl) (by kernel_rfl) (fun _ _ _ h => h) (Or.inl ⟨by rfl, ?_⟩) (ZZ.out _ hb0) ?_
      · rintro w' ⟨z0, z1, z2, z3, z4⟩
        go_simp
      (try simp only [List.setIfInBounds_toArray, List.set_cons_zero, List.set_cons_succ])
      refine Rt.take (i := 3) (d := 78) (v := (.slice B5 q c5)) rfl rfl (by kernel_rfl) (by kernel_rfl) (by kernel_rfl) (fun _ _ _ h => h) (Or.inl ⟨by rfl, ?_⟩) (ZZ.out _ hb0) ?_
      · rintro w' ⟨z0, z1, z2, z3, z4⟩
        go_simp
      (try simp only [List.setIfInBounds_toArray, List.set_cons_zero, List.set_cons_succ])
      refine wpAnyH_ready (rs := [4, 8]) (by kernel_rfl) (by simp) ?_
      refine AllReadyH.cons rfl (fun K hK => ?_) (AllReadyH.cons rfl (fun K hK => ?_) AllReadyH.nil)
      · skip
        go_simp
        refine (CC.out _ hb0).mono ?_
        rintro e wc1 ⟨rfl, hB1⟩
        have hb1 := hb0.trans (hB1.mono hb0.size)
        clear hB1
        refine hK.out _ _ (ZZ.out _ hb1) (fun _ => ?_)
        clear hK K
        (try simp only [Act.put, List.setIfInBounds_toArray, List.set_cons_zero, List.set_cons_succ])
        refine Rt.take (i := 5) (d := 74) (v := (.tuple #[.agg #[.int .i64 0, .int .i64 0, .int .i64 0, .int .i64 0, .slice none 0 0, .slice none 0 0], .int .i64 7])) rfl rfl (by kernel_rfl) (by kernel_rfl) (by kernel_rfl) (fun _ _ _ h => h) (Or.inl ⟨by rfl, ?_⟩) (ZZ.out _ hb1) ?_
        · rintro w' ⟨z0, z1, z2, z3, z4⟩
          go_simp
        (try simp only [List.setIfInBounds_toArray, List.set_cons_zero, List.set_cons_succ])
        refine Rt.take (i := 6) (d := 80) (v := (.agg #[.int .i64 0, .int .i64 0, .int .i64 0, .int .i64 0, .slice none 0 0, .slice none 0 0])) rfl rfl (by kernel_rfl) (by kernel_rfl) (by kernel_rfl) (fun _ _ _ h => h) (Or.inl ⟨by rfl, ?_⟩) (ZZ.out _ hb1) ?_
        · rintro w' ⟨z0, z1, z2, z3, z4⟩
          go_simp
        (try simp only [List.setIfInBounds_toArray, List.set_cons_zero, List.set_cons_succ])
        refine Rt.take (i := 7) (d := 81) (v := (.int .i64 7)) rfl rfl (by kernel_rfl) (by kernel_rfl) (by kernel_rfl) (fun _ _ _ h => h) (Or.inl ⟨by rfl, ?_⟩) (ZZ.out _ hb1) ?_
        · rintro w' ⟨z0, z1, z2, z3, z4⟩
          go_simp
        (try simp only [List.setIfInBounds_toArray, List.set_cons_zero, List.set_cons_succ])
        refine wpAnyH_ready (rs := [8]) (by kernel_rfl) (by simp) ?_
        refine AllReadyH.cons rfl (fun K hK => ?_) AllReadyH.nil
        go_simp
        have hb2 := hb1.alloc hb1.size (.cells #[.int .i64 0, .int .i64 0, .int .i64 0, .int .i64 0, .slice none 0 0, .slice none 0 0] 28)
        have gz2 := Gb.new wc1 0 0 0 0 none 0 0 none 0 0
        have hp2 := hb1.size
        refine hK.out _ _ (ZZ.out _ hb2) (fun _ => ?_)
        clear hK K
        (try simp only [Act.put, List.setIfInBounds_toArray, List.set_cons_zero, List.set_cons_succ])
        obtain ⟨wa2, hW2⟩ : ∃ W, W = wc1.alloc (.cells #[.int .i64 0, .int .i64 0, .int .i64 0, .int .i64 0, .slice none 0 0, .slice none 0 0] 28) := ⟨_, rfl⟩
        rw [← hW2] at hb2 gz2
        rw [← hW2]
        clear hW2
        obtain ⟨u0, u1, u2, u3, u4, u5⟩ := Gb.six gz2
        have f0 := gz2.free 0
        have f1 := gz2.free 1
        have f2 := gz2.free 2
        have f3 := gz2.free 3
        have f4 := gz2.free 4
        have f5 := gz2.free 5
        refine wpAnyH_ready (rs := [9]) (by kernel_rfl) (by simp) ?_
        refine AllReadyH.cons rfl (fun K hK => ?_) AllReadyH.nil
        go_simp
        refine hK.out _ _ (ZZ.out _ (Se.below6 hb2 hp2 _ _ _ _ _ _)) (fun _ => ?_)
        clear hK K
        (try simp only [Act.put, List.setIfInBounds_toArray, List.set_cons_zero, List.set_cons_succ])
        refine Rt.take (i := 10) (d := 18) (v := (.int .i64 7)) rfl rfl (by kernel_rfl) (by kernel_rfl) (by kernel_rfl) (fun _ _ _ h => h) (Or.inl ⟨by rfl, ?_⟩) (ZZ.out _ (Se.below6 hb2 hp2 _ _ _ _ _ _)) ?_
        · rintro w' ⟨z0, z1, z2, z3, z4⟩
          go_simp
        (try simp only [List.setIfInBounds_toArray, List.set_cons_zero, List.set_cons_succ])
        refine wpAnyH_done (by kernel_rfl) ?_ _
        go_wp2_with fail
        go_meet
        exact ⟨rfl, Se.below6 hb2 hp2 _ _ _ _ _ _⟩
      · skip
        go_simp
        have hb3 := hb0.alloc hb0.size (.cells #[.int .i64 0, .int .i64 0, .int .i64 0, .int .i64 0, .slice none 0 0, .slice none 0 0] 28)
        have gz3 := Gb.new W0 0 0 0 0 none 0 0 none 0 0
        have hp3 := hb0.size
        refine hK.out _ _ (ZZ.out _ hb3) (fun _ => ?_)
        clear hK K
        (try simp only [Act.put, List.setIfInBounds_toArray, List.set_cons_zero, List.set_cons_succ])
        obtain ⟨wa3, hW3⟩ : ∃ W, W = W0.alloc (.cells #[.int .i64 0, .int .i64 0, .int .i64 0, .int .i64 0, .slice none 0 0, .slice none 0 0] 28) := ⟨_, rfl⟩
        rw [← hW3] at hb3 gz3
        rw [← hW3]
        clear hW3
        refine wpAnyH_ready (rs := [4]) (by kernel_rfl) (by simp) ?_
        refine AllReadyH.cons rfl (fun K hK => ?_) AllReadyH.nil
        go_simp
        refine (CC.out _ hb3).mono ?_
        rintro e wc4 ⟨rfl, hB4⟩
        have hb4 := hb3.trans (hB4.mono hb3.size)
        have gz4 : Gb wc4 _ 0 0 0 0 none 0 0 none 0 0 := Wd.Bx.below gz3 (Wd.Bx.lt gz3) hB4
        clear hB4
        refine hK.out _ _ (ZZ.out _ hb4) (fun _ => ?_)
        clear hK K
        (try simp only [Act.put, List.setIfInBounds_toArray, List.set_cons_zero, List.set_cons_succ])
        refine Rt.take (i := 5) (d := 74) (v := (.tuple #[.agg #[.int .i64 0, .int .i64 0, .int .i64 0, .int .i64 0, .slice none 0 0, .slice none 0 0], .int .i64 7])) rfl rfl (by kernel_rfl) (by kernel_rfl) (by kernel_rfl) (fun _ _ _ h => h) (Or.inl ⟨by rfl, ?_⟩) (ZZ.out _ hb4) ?_
        · rintro w' ⟨z0, z1, z2, z3, z4⟩
          go_simp
        (try simp only [List.setIfInBounds_toArray, List.set_cons_zero, List.set_cons_succ])
        refine Rt.take (i := 6) (d := 80) (v := (.agg #[.int .i64 0, .int .i64 0, .int .i64 0, .int .i64 0, .slice none 0 0, .slice none 0 0])) rfl rfl (by kernel_rfl) (by kernel_rfl) (by kernel_rfl) (fun _ _ _ h => h) (Or.inl ⟨by rfl, ?_⟩) (ZZ.out _ hb4) ?_
        · rintro w' ⟨z0, z1, z2, z3, z4⟩
          go_simp
        (try simp only [List.setIfInBounds_toArray, List.set_cons_zero, List.set_cons_succ])
        refine Rt.take (i := 7) (d := 81) (v := (.int .i64 7)) rfl rfl (by kernel_rfl) (by kernel_rfl) (by kernel_rfl) (fun _ _ _ h => h) (Or.inl ⟨by rfl, ?_⟩) (ZZ.out _ hb4) ?_
        · rintro w' ⟨z0, z1, z2, z3, z4⟩
          go_simp
        (try simp only [List.setIfInBounds_toArray, List.set_cons_zero, List.set_cons_succ])
        obtain ⟨u0, u1, u2, u3, u4, u5⟩ := Gb.six gz4
        have f0 := gz4.free 0
        have f1 := gz4.free 1
        have f2 := gz4.free 2
        have f3 := gz4.free 3
        have f4 := gz4.free 4
        have f5 := gz4.free 5
        refine wpAnyH_ready (rs := [9]) (by kernel_rfl) (by simp) ?_
        refine AllReadyH.cons rfl (fun K hK => ?_) AllReadyH.nil
        go_simp
        refine hK.out _ _ (ZZ.out _ (Se.below6 hb4 hp3 _ _ _ _ _ _)) (fun _ => ?_)
        clear hK K
        (try simp only [Act.put, List.setIfInBounds_toArray, List.set_cons_zero, List.set_cons_succ])
        refine Rt.take (i := 10) (d := 18) (v := (.int .i64 7)) rfl rfl (by kernel_rfl) (by kernel_rfl) (by kernel_rfl) (fun _ _ _ h => h) (Or.inl ⟨by rfl, ?_⟩) (ZZ.out _ (Se.below6 hb4 hp3 _ _ _ _ _ _)) ?_
        · rintro w' ⟨z0, z1, z2, z3, z4⟩
          go_simp
        (try simp only [List.setIfInBounds_toArray, List.set_cons_zero, List.set_cons_succ])
        refine wpAnyH_done (by kernel_rfl) ?_ _
        go_wp2_with fail
        go_meet
        exact ⟨rfl, Se.below6 hb4 hp3 _ _ _ _ _ _⟩
    case rest =>
      obtain ⟨rfl, hbc⟩ := hcut
      go_upto_region 15 with fail
      have Hc := Lib.hid (H8.out.below hbc)
      have HSc := Lib.hid (HS8.out.below hbc)
      have HMc := Lib.hid (HM.out.below Hc.out.b)
      clear hbc
      by_cases hm0 : m = 0
      case pos =>
        have k0 : decide (0 < m) = false := by simp; omega
        subst hm0
        go_wp2_with fail
        go_ret
        exact ⟨rfl, Hc.out.b⟩
      have k1 : (0 : Int) < (m : Int) := by omega
      have k2 : decide (0 < m) = true := decide_eq_true (by omega)
      have hms : ms ≠ [] := fun e => hm0 (by rw [Hm.out, e]; rfl)
      have Hbad := Lib.hid (bad_more HG.out hms)
      have HL := Lib.hid (show (fileB x).length + ms.length ≤ 930100 by have := HG.out.len; have := Hm.out; omega)
      have Hby := Lib.hid (Rn.byt_app (file_byt HG.out) HF.out)
      clear hms hm0
      go_upto_region 16 with fail
      go_cut [20] (fun v wz => v = .int .i64 7 ∧ Below wc.heap.size wc wz)
      case first =>
        have ZZ := Lib.hid (fun (W : World) (hb : Below wc.heap.size wc W) => five (Hc.out.below hb).s)
        have CC := Lib.hid (fun (R : Option Addr) (r rc : Nat) (W : World) (hb : Below wc.heap.size wc W) (h : Wd.Sl W .u8 R r rc (fileB x ++ ms)) => Decode_no A n c s R r rc x W (HS.out.below (Hc.out.b.trans (hb.mono Hc.out.b.size))) Hok.out HG.out (by omega) _ h Hby.out (by have := h.len; rw [List.length_append] at this; have := HL.out; omega) Hbad.out)
        refine wp_region_any (by kernel_rfl) ?_
        refine wpAny_of_held (S := fun w' => w'.cell? ⟨w.heap.size, 0, none⟩ = some (.slice A n c) ∧ w'.cell? ⟨w.heap.size, 1, none⟩ = some (.int .i64 s.key) ∧ w'.cell? ⟨w.heap.size, 2, none⟩ = some (.int .i64 s.cmp) ∧ w'.cell? ⟨w.heap.size, 3, none⟩ = some (.int .i64 s.del) ∧ w'.cell? ⟨w.heap.size, 4, none⟩ = some (.int .i64 s.sort)) _ _ _ _ ?_
        change wpAnyH _ _ _ _ _ 12 (Array.replicate 12 false) _ wc.drew
        have hb0 : Below wc.heap.size wc wc.drew := (Below.refl _ _).drew
        generalize wc.drew = W0 at hb0 ⊢
        refine Rt.take (i := 0) (d := 88) (v := (.agg #[.slice A n c, .int .i64 s.key, .int .i64 s.cmp, .int .i64 s.del, .int .i64 s.sort])) rfl rfl (by kernel_rfl) (by kernel_rfl) (by kernel_rfl) (fun _ _ _ h => h) (Or.inl ⟨by rfl, ?_⟩) (ZZ.out _ hb0) ?_
        · rintro w' ⟨z0, z1, z2, z3, z4⟩
          go_simp
        (try simp only [List.setIfInBounds_toArray, List.set_cons_zero, List.set_cons_succ])
        refine Rt.take (i := 1) (d := 89) (v := (.slice B5 n5 c5)) rfl rfl (by kernel_rfl) (by kernel_rfl) (by kernel_rfl) (fun _ _ _ h => h) (Or.inl ⟨by rfl, ?_⟩) (ZZ.out _ hb0) ?_
        · rintro w' ⟨z0, z1, z2, z3, z4⟩
          go_simp
        (try simp only [List.setIfInBounds_toArray, List.set_cons_zero, List.set_cons_succ])
        refine Rt.take (i := 3) (d := 91) (v := (.slice M m d)) rfl rfl (by kernel_rfl) (by kernel_rfl) (by kernel_rfl) (fun _ _ _ h => h) (Or.inl ⟨by rfl, ?_⟩) (ZZ.out _ hb0) ?_
        · rintro w' ⟨z0, z1, z2, z3, z4⟩
          go_simp
        (try simp only [List.setIfInBounds_toArray, List.set_cons_zero, List.set_cons_succ])
        refine wpAnyH_ready (rs := [2, 9]) (by kernel_rfl) (by simp) ?_
        refine AllReadyH.cons rfl (fun K hK => ?_) (AllReadyH.cons rfl (fun K hK => ?_) AllReadyH.nil)
        · skip
          refine Rc.step_app W0 rfl (.const (.slice none 0 0)) (.tmp 89) 32 rfl wc.heap.size 5 i0 _ .u8 1 Tryz.underlying32 hi hz0 hz1 hz2 rfl (.slice none 0 0) [] rfl (World.ownsRow_nil _ _ _ _) W0.heap.size B5 n5 c5 (fileB x) rfl H5n.out (HSc.out.below hb0).nil (HSc.out.below hb0).rd (by have := HL.out; simp only [List.length_nil]; omega) (by have := HL.out; simp only [List.length_nil]; unfold maxLen; omega) hb0.size ?_
          intro v1 wp1 hown1 hg1
          have hb1 := hb0.grown hg1 hb0.size (by simp [Value.ownBlock])
          rw [List.nil_append] at hown1
          refine hK.out _ _ (ZZ.out _ hb1) (fun _ => ?_)
          clear hK K
          (try simp only [Act.put, List.setIfInBounds_toArray])
          refine wpAnyH_ready (rs := [4, 9]) (by kernel_rfl) (by simp) ?_
          refine AllReadyH.cons rfl (fun K hK => ?_) (AllReadyH.cons rfl (fun K hK => ?_) AllReadyH.nil)
          · skip
            refine Rc.step_app wp1 rfl (.tmp 90) (.tmp 91) 32 rfl wc.heap.size 5 i0 _ .u8 1 Tryz.underlying32 hi hz0 hz1 hz2 rfl v1 (fileB x) rfl (hown1) wp1.heap.size M m d ms rfl Hm.out (HMc.out.below hb1).nil (HMc.out.below hb1).rd (by have := HL.out;  omega) (by have := HL.out;  unfold maxLen; omega) hb1.size ?_
            intro v2 wp2 hown2 hg2
            have hb2 := hb1.grown hg2 hb1.size (fun g hg => (hown1.lt g hg).1)
            obtain ⟨A2, n2, c2, rfl, hS2⟩ := Wd.Sl.of_own hown2
            refine hK.out _ _ (ZZ.out _ hb2) (fun _ => ?_)
            clear hK K
            (try simp only [Act.put])
            refine wpAnyH_ready (rs := [5, 9]) (by kernel_rfl) (by simp) ?_
            refine AllReadyH.cons rfl (fun K hK => ?_) (AllReadyH.cons rfl (fun K hK => ?_) AllReadyH.nil)
            · skip
              go_simp
              refine (CC.out A2 n2 c2 _ hb2 hS2).mono ?_
              rintro e wc3 ⟨rfl, hB3⟩
              have hb3 := hb2.trans (hB3.mono hb2.size)
              clear hB3
              refine hK.out _ _ (ZZ.out _ hb3) (fun _ => ?_)
              clear hK K
              (try simp only [Act.put, List.setIfInBounds_toArray, List.set_cons_zero, List.set_cons_succ])
              refine Rt.take (i := 6) (d := 87) (v := (.tuple #[.agg #[.int .i64 0, .int .i64 0, .int .i64 0, .int .i64 0, .slice none 0 0, .slice none 0 0], .int .i64 7])) rfl rfl (by kernel_rfl) (by kernel_rfl) (by kernel_rfl) (fun _ _ _ h => h) (Or.inl ⟨by rfl, ?_⟩) (ZZ.out _ hb3) ?_
              · rintro w' ⟨z0, z1, z2, z3, z4⟩
                go_simp
              (try simp only [List.setIfInBounds_toArray, List.set_cons_zero, List.set_cons_succ])
              refine Rt.take (i := 7) (d := 94) (v := (.agg #[.int .i64 0, .int .i64 0, .int .i64 0, .int .i64 0, .slice none 0 0, .slice none 0 0])) rfl rfl (by kernel_rfl) (by kernel_rfl) (by kernel_rfl) (fun _ _ _ h => h) (Or.inl ⟨by rfl, ?_⟩) (ZZ.out _ hb3) ?_
              · rintro w' ⟨z0, z1, z2, z3, z4⟩
                go_simp
              (try simp only [List.setIfInBounds_toArray, List.set_cons_zero, List.set_cons_succ])
              refine Rt.take (i := 8) (d := 95) (v := (.int .i64 7)) rfl rfl (by kernel_rfl) (by kernel_rfl) (by kernel_rfl) (fun _ _ _ h => h) (Or.inl ⟨by rfl, ?_⟩) (ZZ.out _ hb3) ?_
              · rintro w' ⟨z0, z1, z2, z3, z4⟩
                go_simp
              (try simp only [List.setIfInBounds_toArray, List.set_cons_zero, List.set_cons_succ])
              refine wpAnyH_ready (rs := [9]) (by kernel_rfl) (by simp) ?_
              refine AllReadyH.cons rfl (fun K hK => ?_) AllReadyH.nil
              go_simp
              have hb4 := hb3.alloc hb3.size (.cells #[.int .i64 0, .int .i64 0, .int .i64 0, .int .i64 0, .slice none 0 0, .slice none 0 0] 28)
              have gz4 := Gb.new wc3 0 0 0 0 none 0 0 none 0 0
              have hp4 := hb3.size
              refine hK.out _ _ (ZZ.out _ hb4) (fun _ => ?_)
              clear hK K
              (try simp only [Act.put, List.setIfInBounds_toArray, List.set_cons_zero, List.set_cons_succ])
              obtain ⟨wa4, hW4⟩ : ∃ W, W = wc3.alloc (.cells #[.int .i64 0, .int .i64 0, .int .i64 0, .int .i64 0, .slice none 0 0, .slice none 0 0] 28) := ⟨_, rfl⟩
              rw [← hW4] at hb4 gz4
              rw [← hW4]
              clear hW4
              obtain ⟨u0, u1, u2, u3, u4, u5⟩ := Gb.six gz4
              have f0 := gz4.free 0
              have f1 := gz4.free 1
              have f2 := gz4.free 2
              have f3 := gz4.free 3
              have f4 := gz4.free 4
              have f5 := gz4.free 5
              refine wpAnyH_ready (rs := [10]) (by kernel_rfl) (by simp) ?_
              refine AllReadyH.cons rfl (fun K hK => ?_) AllReadyH.nil
              go_simp
              refine hK.out _ _ (ZZ.out _ (Se.below6 hb4 hp4 _ _ _ _ _ _)) (fun _ => ?_)
              clear hK K
              (try simp only [Act.put, List.setIfInBounds_toArray, List.set_cons_zero, List.set_cons_succ])
              refine Rt.take (i := 11) (d := 20) (v := (.int .i64 7)) rfl rfl (by kernel_rfl) (by kernel_rfl) (by kernel_rfl) (fun _ _ _ h => h) (Or.inl ⟨by rfl, ?_⟩) (ZZ.out _ (Se.below6 hb4 hp4 _ _ _ _ _ _)) ?_
              · rintro w' ⟨z0, z1, z2, z3, z4⟩
                go_simp
              (try simp only [List.setIfInBounds_toArray, List.set_cons_zero, List.set_cons_succ])
              refine wpAnyH_done (by kernel_rfl) ?_ _
              go_wp2_with fail
              go_meet
              exact ⟨rfl, Se.below6 hb4 hp4 _ _ _ _ _ _⟩
            · skip
              go_simp
              have hb5 := hb2.alloc hb2.size (.cells #[.int .i64 0, .int .i64 0, .int .i64 0, .int .i64 0, .slice none 0 0, .slice none 0 0] 28)
              have gz5 := Gb.new wp2 0 0 0 0 none 0 0 none 0 0
              have hp5 := hb2.size
              have sl5 := hS2.below ((Below.refl _ _).alloc (Nat.le_refl _) (.cells #[.int .i64 0, .int .i64 0, .int .i64 0, .int .i64 0, .slice none 0 0, .slice none 0 0] 28))
              refine hK.out _ _ (ZZ.out _ hb5) (fun _ => ?_)
              clear hK K
              (try simp only [Act.put, List.setIfInBounds_toArray, List.set_cons_zero, List.set_cons_succ])
              obtain ⟨wa5, hW5⟩ : ∃ W, W = wp2.alloc (.cells #[.int .i64 0, .int .i64 0, .int .i64 0, .int .i64 0, .slice none 0 0, .slice none 0 0] 28) := ⟨_, rfl⟩
              rw [← hW5] at hb5 gz5 sl5
              rw [← hW5]
              clear hW5
              refine wpAnyH_ready (rs := [5]) (by kernel_rfl) (by simp) ?_
              refine AllReadyH.cons rfl (fun K hK => ?_) AllReadyH.nil
              go_simp
              refine (CC.out A2 n2 c2 _ hb5 sl5).mono ?_
              rintro e wc6 ⟨rfl, hB6⟩
              have hb6 := hb5.trans (hB6.mono hb5.size)
              have gz6 : Gb wc6 _ 0 0 0 0 none 0 0 none 0 0 := Wd.Bx.below gz5 (Wd.Bx.lt gz5) hB6
              clear hB6
              refine hK.out _ _ (ZZ.out _ hb6) (fun _ => ?_)
              clear hK K
              (try simp only [Act.put, List.setIfInBounds_toArray, List.set_cons_zero, List.set_cons_succ])
              refine Rt.take (i := 6) (d := 87) (v := (.tuple #[.agg #[.int .i64 0, .int .i64 0, .int .i64 0, .int .i64 0, .slice none 0 0, .slice none 0 0], .int .i64 7])) rfl rfl (by kernel_rfl) (by kernel_rfl) (by kernel_rfl) (fun _ _ _ h => h) (Or.inl ⟨by rfl, ?_⟩) (ZZ.out _ hb6) ?_
              · rintro w' ⟨z0, z1, z2, z3, z4⟩
                go_simp
              (try simp only [List.setIfInBounds_toArray, List.set_cons_zero, List.set_cons_succ])
              refine Rt.take (i := 7) (d := 94) (v := (.agg #[.int .i64 0, .int .i64 0, .int .i64 0, .int .i64 0, .slice none 0 0, .slice none 0 0])) rfl rfl (by kernel_rfl) (by kernel_rfl) (by kernel_rfl) (fun _ _ _ h => h) (Or.inl ⟨by rfl, ?_⟩) (ZZ.out _ hb6) ?_
              · rintro w' ⟨z0, z1, z2, z3, z4⟩
                go_simp
              (try simp only [List.setIfInBounds_toArray, List.set_cons_zero, List.set_cons_succ])
              refine Rt.take (i := 8) (d := 95) (v := (.int .i64 7)) rfl rfl (by kernel_rfl) (by kernel_rfl) (by kernel_rfl) (fun _ _ _ h => h) (Or.inl ⟨by rfl, ?_⟩) (ZZ.out _ hb6) ?_
              · rintro w' ⟨z0, z1, z2, z3, z4⟩
                go_simp
              (try simp only [List.setIfInBounds_toArray, List.set_cons_zero, List.set_cons_succ])
              obtain ⟨u0, u1, u2, u3, u4, u5⟩ := Gb.six gz6
              have f0 := gz6.free 0
              have f1 := gz6.free 1
              have f2 := gz6.free 2
              have f3 := gz6.free 3
              have f4 := gz6.free 4
              have f5 := gz6.free 5
              refine wpAnyH_ready (rs := [10]) (by kernel_rfl) (by simp) ?_
              refine AllReadyH.cons rfl (fun K hK => ?_) AllReadyH.nil
              go_simp
              refine hK.out _ _ (ZZ.out _ (Se.below6 hb6 hp5 _ _ _ _ _ _)) (fun _ => ?_)
              clear hK K
              (try simp only [Act.put, List.setIfInBounds_toArray, List.set_cons_zero, List.set_cons_succ])
              refine Rt.take (i := 11) (d := 20) (v := (.int .i64 7)) rfl rfl (by kernel_rfl) (by kernel_rfl) (by kernel_rfl) (fun _ _ _ h => h) (Or.inl ⟨by rfl, ?_⟩) (ZZ.out _ (Se.below6 hb6 hp5 _ _ _ _ _ _)) ?_
              · rintro w' ⟨z0, z1, z2, z3, z4⟩
                go_simp
              (try simp only [List.setIfInBounds_toArray, List.set_cons_zero, List.set_cons_succ])
              refine wpAnyH_done (by kernel_rfl) ?_ _
              go_wp2_with fail
              go_meet
              exact ⟨rfl, Se.below6 hb6 hp5 _ _ _ _ _ _⟩
          · skip
            go_simp
            have hb7 := hb1.alloc hb1.size (.cells #[.int .i64 0, .int .i64 0, .int .i64 0, .int .i64 0, .slice none 0 0, .slice none 0 0] 28)
            have gz7 := Gb.new wp1 0 0 0 0 none 0 0 none 0 0
            have hp7 := hb1.size
            have ow7 := hown1.alloc (.cells #[.int .i64 0, .int .i64 0, .int .i64 0, .int .i64 0, .slice none 0 0, .slice none 0 0] 28)
            refine hK.out _ _ (ZZ.out _ hb7) (fun _ => ?_)
            clear hK K
            (try simp only [Act.put, List.setIfInBounds_toArray, List.set_cons_zero, List.set_cons_succ])
            obtain ⟨wa7, hW7⟩ : ∃ W, W = wp1.alloc (.cells #[.int .i64 0, .int .i64 0, .int .i64 0, .int .i64 0, .slice none 0 0, .slice none 0 0] 28) := ⟨_, rfl⟩
            rw [← hW7] at hb7 gz7 ow7
            rw [← hW7]
            clear hW7
            refine wpAnyH_ready (rs := [4]) (by kernel_rfl) (by simp) ?_
            refine AllReadyH.cons rfl (fun K hK => ?_) AllReadyH.nil
            refine Rc.step_app wa7 rfl (.tmp 90) (.tmp 91) 32 rfl wc.heap.size 5 i0 _ .u8 1 Tryz.underlying32 hi hz0 hz1 hz2 rfl v1 (fileB x) rfl (ow7) wa7.heap.size M m d ms rfl Hm.out (HMc.out.below hb7).nil (HMc.out.below hb7).rd (by have := HL.out;  omega) (by have := HL.out;  unfold maxLen; omega) hb7.size ?_
            intro v8 wp8 hown8 hg8
            have hb8 := hb7.grown hg8 hb7.size (fun g hg => (ow7.lt g hg).1)
            have gz8 : Gb wp8 _ 0 0 0 0 none 0 0 none 0 0 := Wd.Bx.grown gz7 hg8 (Wd.Bx.apart gz7 ow7 (by decide))
            obtain ⟨A8, n8, c8, rfl, hS8⟩ := Wd.Sl.of_own hown8
            refine hK.out _ _ (ZZ.out _ hb8) (fun _ => ?_)
            clear hK K
            (try simp only [Act.put, List.setIfInBounds_toArray])
            refine wpAnyH_ready (rs := [5]) (by kernel_rfl) (by simp) ?_
            refine AllReadyH.cons rfl (fun K hK => ?_) AllReadyH.nil
            go_simp
            refine (CC.out A8 n8 c8 _ hb8 hS8).mono ?_
            rintro e wc9 ⟨rfl, hB9⟩
            have hb9 := hb8.trans (hB9.mono hb8.size)
            have gz9 : Gb wc9 _ 0 0 0 0 none 0 0 none 0 0 := Wd.Bx.below gz8 (Wd.Bx.lt gz8) hB9
            clear hB9
            refine hK.out _ _ (ZZ.out _ hb9) (fun _ => ?_)
            clear hK K
            (try simp only [Act.put, List.setIfInBounds_toArray, List.set_cons_zero, List.set_cons_succ])
            refine Rt.take (i := 6) (d := 87) (v := (.tuple #[.agg #[.int .i64 0, .int .i64 0, .int .i64 0, .int .i64 0, .slice none 0 0, .slice none 0 0], .int .i64 7])) rfl rfl (by kernel_rfl) (by kernel_rfl) (by kernel_rfl) (fun _ _ _ h => h) (Or.inl ⟨by rfl, ?_⟩) (ZZ.out _ hb9) ?_
            · rintro w' ⟨z0, z1, z2, z3, z4⟩
              go_simp
            (try simp only [List.setIfInBounds_toArray, List.set_cons_zero, List.set_cons_succ])
            refine Rt.take (i := 7) (d := 94) (v := (.agg #[.int .i64 0, .int .i64 0, .int .i64 0, .int .i64 0, .slice none 0 0, .slice none 0 0])) rfl rfl (by kernel_rfl) (by kernel_rfl) (by kernel_rfl) (fun _ _ _ h => h) (Or.inl ⟨by rfl, ?_⟩) (ZZ.out _ hb9) ?_
            · rintro w' ⟨z0, z1, z2, z3, z4⟩
              go_simp
            (try simp only [List.setIfInBounds_toArray, List.set_cons_zero, List.set_cons_succ])
            refine Rt.take (i := 8) (d := 95) (v := (.int .i64 7)) rfl rfl (by kernel_rfl) (by kernel_rfl) (by kernel_rfl) (fun _ _ _ h => h) (Or.inl ⟨by rfl, ?_⟩) (ZZ.out _ hb9) ?_
            · rintro w' ⟨z0, z1, z2, z3, z4⟩
              go_simp
            (try simp only [List.setIfInBounds_toArray, List.set_cons_zero, List.set_cons_succ])
            obtain ⟨u0, u1, u2, u3, u4, u5⟩ := Gb.six gz9
            have f0 := gz9.free 0
            have f1 := gz9.free 1
            have f2 := gz9.free 2
            have f3 := gz9.free 3
            have f4 := gz9.free 4
            have f5 := gz9.free 5
            refine wpAnyH_ready (rs := [10]) (by kernel_rfl) (by simp) ?_
            refine AllReadyH.cons rfl (fun K hK => ?_) AllReadyH.nil
            go_simp
            refine hK.out _ _ (ZZ.out _ (Se.below6 hb9 hp7 _ _ _ _ _ _)) (fun _ => ?_)
            clear hK K
            (try simp only [Act.put, List.setIfInBounds_toArray, List.set_cons_zero, List.set_cons_succ])
            refine Rt.take (i := 11) (d := 20) (v := (.int .i64 7)) rfl rfl (by kernel_rfl) (by kernel_rfl) (by kernel_rfl) (fun _ _ _ h => h) (Or.inl ⟨by rfl, ?_⟩) (ZZ.out _ (Se.below6 hb9 hp7 _ _ _ _ _ _)) ?_
            · rintro w' ⟨z0, z1, z2, z3, z4⟩
              go_simp
            (try simp only [List.setIfInBounds_toArray, List.set_cons_zero, List.set_cons_succ])
            refine wpAnyH_done (by kernel_rfl) ?_ _
            go_wp2_with fail
            go_meet
            exact ⟨rfl, Se.below6 hb9 hp7 _ _ _ _ _ _⟩
        · skip
          go_simp
          have hb10 := hb0.alloc hb0.size (.cells #[.int .i64 0, .int .i64 0, .int .i64 0, .int .i64 0, .slice none 0 0, .slice none 0 0] 28)
          have gz10 := Gb.new W0 0 0 0 0 none 0 0 none 0 0
          have hp10 := hb0.size
          refine hK.out _ _ (ZZ.out _ hb10) (fun _ => ?_)
          clear hK K
          (try simp only [Act.put, List.setIfInBounds_toArray, List.set_cons_zero, List.set_cons_succ])
          obtain ⟨wa10, hW10⟩ : ∃ W, W = W0.alloc (.cells #[.int .i64 0, .int .i64 0, .int .i64 0, .int .i64 0, .slice none 0 0, .slice none 0 0] 28) := ⟨_, rfl⟩
          rw [← hW10] at hb10 gz10
          rw [← hW10]
          clear hW10
          refine wpAnyH_ready (rs := [2]) (by kernel_rfl) (by simp) ?_
          refine AllReadyH.cons rfl (fun K hK => ?_) AllReadyH.nil
          refine Rc.step_app wa10 rfl (.const (.slice none 0 0)) (.tmp 89) 32 rfl wc.heap.size 5 i0 _ .u8 1 Tryz.underlying32 hi hz0 hz1 hz2 rfl (.slice none 0 0) [] rfl (World.ownsRow_nil _ _ _ _) wa10.heap.size B5 n5 c5 (fileB x) rfl H5n.out (HSc.out.below hb10).nil (HSc.out.below hb10).rd (by have := HL.out; simp only [List.length_nil]; omega) (by have := HL.out; simp only [List.length_nil]; unfold maxLen; omega) hb10.size ?_
          intro v11 wp11 hown11 hg11
          have hb11 := hb10.grown hg11 hb10.size (by simp [Value.ownBlock])
          have gz11 : Gb wp11 _ 0 0 0 0 none 0 0 none 0 0 := Wd.Bx.grown gz10 hg11 (by simp [Value.ownBlock])
          rw [List.nil_append] at hown11
          refine hK.out _ _ (ZZ.out _ hb11) (fun _ => ?_)
          clear hK K
          (try simp only [Act.put, List.setIfInBounds_toArray])
          refine wpAnyH_ready (rs := [4]) (by kernel_rfl) (by simp) ?_
          refine AllReadyH.cons rfl (fun K hK => ?_) AllReadyH.nil
          refine Rc.step_app wp11 rfl (.tmp 90) (.tmp 91) 32 rfl wc.heap.size 5 i0 _ .u8 1 Tryz.underlying32 hi hz0 hz1 hz2 rfl v11 (fileB x) rfl (hown11) wp11.heap.size M m d ms rfl Hm.out (HMc.out.below hb11).nil (HMc.out.below hb11).rd (by have := HL.out;  omega) (by have := HL.out;  unfold maxLen; omega) hb11.size ?_
          intro v12 wp12 hown12 hg12
          have hb12 := hb11.grown hg12 hb11.size (fun g hg => (hown11.lt g hg).1)
          have gz12 : Gb wp12 _ 0 0 0 0 none 0 0 none 0 0 := Wd.Bx.grown gz11 hg12 (Wd.Bx.apart gz11 hown11 (by decide))
          obtain ⟨A12, n12, c12, rfl, hS12⟩ := Wd.Sl.of_own hown12
          refine hK.out _ _ (ZZ.out _ hb12) (fun _ => ?_)
          clear hK K
          (try simp only [Act.put])
          refine wpAnyH_ready (rs := [5]) (by kernel_rfl) (by simp) ?_
          refine AllReadyH.cons rfl (fun K hK => ?_) AllReadyH.nil
          go_simp
          refine (CC.out A12 n12 c12 _ hb12 hS12).mono ?_
          rintro e wc13 ⟨rfl, hB13⟩
          have hb13 := hb12.trans (hB13.mono hb12.size)
          have gz13 : Gb wc13 _ 0 0 0 0 none 0 0 none 0 0 := Wd.Bx.below gz12 (Wd.Bx.lt gz12) hB13
          clear hB13
          refine hK.out _ _ (ZZ.out _ hb13) (fun _ => ?_)
          clear hK K
          (try simp only [Act.put, List.setIfInBounds_toArray, List.set_cons_zero, List.set_cons_succ])
          refine Rt.take (i := 6) (d := 87) (v := (.tuple #[.agg #[.int .i64 0, .int .i64 0, .int .i64 0, .int .i64 0, .slice none 0 0, .slice none 0 0], .int .i64 7])) rfl rfl (by kernel_rfl) (by kernel_rfl) (by kernel_rfl) (fun _ _ _ h => h) (Or.inl ⟨by rfl, ?_⟩) (ZZ.out _ hb13) ?_
          · rintro w' ⟨z0, z1, z2, z3, z4⟩
            go_simp
          (try simp only [List.setIfInBounds_toArray, List.set_cons_zero, List.set_cons_succ])
          refine Rt.take (i := 7) (d := 94) (v := (.agg #[.int .i64 0, .int .i64 0, .int .i64 0, .int .i64 0, .slice none 0 0, .slice none 0 0])) rfl rfl (by kernel_rfl) (by kernel_rfl) (by kernel_rfl) (fun _ _ _ h => h) (Or.inl ⟨by rfl, ?_⟩) (ZZ.out _ hb13) ?_
          · rintro w' ⟨z0, z1, z2, z3, z4⟩
            go_simp
          (try simp only [List.setIfInBounds_toArray, List.set_cons_zero, List.set_cons_succ])
          refine Rt.take (i := 8) (d := 95) (v := (.int .i64 7)) rfl rfl (by kernel_rfl) (by kernel_rfl) (by kernel_rfl) (fun _ _ _ h => h) (Or.inl ⟨by rfl, ?_⟩) (ZZ.out _ hb13) ?_
          · rintro w' ⟨z0, z1, z2, z3, z4⟩
            go_simp
          (try simp only [List.setIfInBounds_toArray, List.set_cons_zero, List.set_cons_succ])
          obtain ⟨u0, u1, u2, u3, u4, u5⟩ := Gb.six gz13
          have f0 := gz13.free 0
          have f1 := gz13.free 1
          have f2 := gz13.free 2
          have f3 := gz13.free 3
          have f4 := gz13.free 4
          have f5 := gz13.free 5
          refine wpAnyH_ready (rs := [10]) (by kernel_rfl) (by simp) ?_
          refine AllReadyH.cons rfl (fun K hK => ?_) AllReadyH.nil
          go_simp
          refine hK.out _ _ (ZZ.out _ (Se.below6 hb13 hp10 _ _ _ _ _ _)) (fun _ => ?_)
          clear hK K
          (try simp only [Act.put, List.setIfInBounds_toArray, List.set_cons_zero, List.set_cons_succ])
          refine Rt.take (i := 11) (d := 20) (v := (.int .i64 7)) rfl rfl (by kernel_rfl) (by kernel_rfl) (by kernel_rfl) (fun _ _ _ h => h) (Or.inl ⟨by rfl, ?_⟩) (ZZ.out _ (Se.below6 hb13 hp10 _ _ _ _ _ _)) ?_
          · rintro w' ⟨z0, z1, z2, z3, z4⟩
            go_simp
          (try simp only [List.setIfInBounds_toArray, List.set_cons_zero, List.set_cons_succ])
          refine wpAnyH_done (by kernel_rfl) ?_ _
          go_wp2_with fail
          go_meet
          exact ⟨rfl, Se.below6 hb13 hp10 _ _ _ _ _ _⟩
      case rest =>
        obtain ⟨rfl, hbd⟩ := hcut
        have Hd := Lib.hid (Hc.out.below hbd)
        clear hbd
        go_wp2_with fail
        go_ret
        exact ⟨rfl, Hd.out.b⟩
  case neg =>
    obtain ⟨wc, hwc⟩ : ∃ wc, wc = w8 := ⟨_, rfl⟩
    have hbc : Below w8.heap.size w8 wc := by rw [hwc]; exact Below.refl _ _
    have Hwc := Lib.hid hwc
    by_cases hc2 : 0 ≤ cut
    · have hc3 : (n5 : Int) ≤ cut := by omega
      have j0 : ¬ cut < (n5 : Int) := by omega
      have j1 : decide (0 ≤ cut) = true := decide_eq_true hc2
      have j2 : decide (cut < (n5 : Int)) = false := decide_eq_false j0
      clear hc1 hwc
      go_upto_region 15 with fail
      rw [← Hwc.out]
      clear j0 j1 j2 hc2 hc3
      have Hc := Lib.hid (H8.out.below hbc)
      have HSc := Lib.hid (HS8.out.below hbc)
      have HMc := Lib.hid (HM.out.below Hc.out.b)
      clear hbc
      by_cases hm0 : m = 0
      case pos =>
        have k0 : decide (0 < m) = false := by simp; omega
        subst hm0
        go_wp2_with fail
        go_ret
        exact ⟨rfl, Hc.out.b⟩
      have k1 : (0 : Int) < (m : Int) := by omega
      have k2 : decide (0 < m) = true := decide_eq_true (by omega)
      have hms : ms ≠ [] := fun e => hm0 (by rw [Hm.out, e]; rfl)
      have Hbad := Lib.hid (bad_more HG.out hms)
      have HL := Lib.hid (show (fileB x).length + ms.length ≤ 930100 by have := HG.out.len; have := Hm.out; omega)
      have Hby := Lib.hid (Rn.byt_app (file_byt HG.out) HF.out)
      clear hms hm0
      go_upto_region 16 with fail
      go_cut [20] (fun v wz => v = .int .i64 7 ∧ Below wc.heap.size wc wz)
      case first =>
        have ZZ := Lib.hid (fun (W : World) (hb : Below wc.heap.size wc W) => five (Hc.out.below hb).s)
        have CC := Lib.hid (fun (R : Option Addr) (r rc : Nat) (W : World) (hb : Below wc.heap.size wc W) (h : Wd.Sl W .u8 R r rc (fileB x ++ ms)) => Decode_no A n c s R r rc x W (HS.out.below (Hc.out.b.trans (hb.mono Hc.out.b.size))) Hok.out HG.out (by omega) _ h Hby.out (by have := h.len; rw [List.length_append] at this; have := HL.out; omega) Hbad.out)
        refine wp_region_any (by kernel_rfl) ?_
        refine wpAny_of_held (S := fun w' => w'.cell? ⟨w.heap.size, 0, none⟩ = some (.slice A n c) ∧ w'.cell? ⟨w.heap.size, 1, none⟩ = some (.int .i64 s.key) ∧ w'.cell? ⟨w.heap.size, 2, none⟩ = some (.int .i64 s.cmp) ∧ w'.cell? ⟨w.heap.size, 3, none⟩ = some (.int .i64 s.del) ∧ w'.cell? ⟨w.heap.size, 4, none⟩ = some (.int .i64 s.sort)) _ _ _ _ ?_
        change wpAnyH _ _ _ _ _ 12 (Array.replicate 12 false) _ wc.drew
        have hb0 : Below wc.heap.size wc wc.drew := (Below.refl _ _).drew
        generalize wc.drew = W0 at hb0 ⊢
        refine Rt.take (i := 0) (d := 88) (v := (.agg #[.slice A n c, .int .i64 s.key, .int .i64 s.cmp, .int .i64 s.del, .int .i64 s.sort])) rfl rfl (by kernel_rfl) (by kernel_rfl) (by kernel_rfl) (fun _ _ _ h => h) (Or.inl ⟨by rfl, ?_⟩) (ZZ.out _ hb0) ?_
        · rintro w' ⟨z0, z1, z2, z3, z4⟩
          go_simp
        (try simp only [List.setIfInBounds_toArray, List.set_cons_zero, List.set_cons_succ])
        refine Rt.take (i := 1) (d := 89) (v := (.slice B5 n5 c5)) rfl rfl (by kernel_rfl) (by kernel_rfl) (by kernel_rfl) (fun _ _ _ h => h) (Or.inl ⟨by rfl, ?_⟩) (ZZ.out _ hb0) ?_
        · rintro w' ⟨z0, z1, z2, z3, z4⟩
          go_simp
        (try simp only [List.setIfInBounds_toArray, List.set_cons_zero, List.set_cons_succ])
        refine Rt.take (i := 3) (d := 91) (v := (.slice M m d)) rfl rfl (by kernel_rfl) (by kernel_rfl) (by kernel_rfl) (fun _ _ _ h => h) (Or.inl ⟨by rfl, ?_⟩) (ZZ.out _ hb0) ?_
        · rintro w' ⟨z0, z1, z2, z3, z4⟩
          go_simp
        (try simp only [List.setIfInBounds_toArray, List.set_cons_zero, List.set_cons_succ])
        refine wpAnyH_ready (rs := [2, 9]) (by kernel_rfl) (by simp) ?_
        refine AllReadyH.cons rfl (fun K hK => ?_) (AllReadyH.cons rfl (fun K hK => ?_) AllReadyH.nil)
        · skip
          refine Rc.step_app W0 rfl (.const (.slice none 0 0)) (.tmp 89) 32 rfl wc.heap.size 5 i0 _ .u8 1 Tryz.underlying32 hi hz0 hz1 hz2 rfl (.slice none 0 0) [] rfl (World.ownsRow_nil _ _ _ _) W0.heap.size B5 n5 c5 (fileB x) rfl H5n.out (HSc.out.below hb0).nil (HSc.out.below hb0).rd (by have := HL.out; simp only [List.length_nil]; omega) (by have := HL.out; simp only [List.length_nil]; unfold maxLen; omega) hb0.size ?_
          intro v1 wp1 hown1 hg1
          have hb1 := hb0.grown hg1 hb0.size (by simp [Value.ownBlock])
          rw [List.nil_append] at hown1
          refine hK.out _ _ (ZZ.out _ hb1) (fun _ => ?_)
          clear hK K
          (try simp only [Act.put, List.setIfInBounds_toArray])
          refine wpAnyH_ready (rs := [4, 9]) (by kernel_rfl) (by simp) ?_
          refine AllReadyH.cons rfl (fun K hK => ?_) (AllReadyH.cons rfl (fun K hK => ?_) AllReadyH.nil)
          · skip
            refine Rc.step_app wp1 rfl (.tmp 90) (.tmp 91) 32 rfl wc.heap.size 5 i0 _ .u8 1 Tryz.underlying32 hi hz0 hz1 hz2 rfl v1 (fileB x) rfl (hown1) wp1.heap.size M m d ms rfl Hm.out (HMc.out.below hb1).nil (HMc.out.below hb1).rd (by have := HL.out;  omega) (by have := HL.out;  unfold maxLen; omega) hb1.size ?_
            intro v2 wp2 hown2 hg2
            have hb2 := hb1.grown hg2 hb1.size (fun g hg => (hown1.lt g hg).1)
            obtain ⟨A2, n2, c2, rfl, hS2⟩ := Wd.Sl.of_own hown2
            refine hK.out _ _ (ZZ.out _ hb2) (fun _ => ?_)
            clear hK K
            (try simp only [Act.put])
            refine wpAnyH_ready (rs := [5, 9]) (by kernel_rfl) (by simp) ?_
            refine AllReadyH.cons rfl (fun K hK => ?_) (AllReadyH.cons rfl (fun K hK => ?_) AllReadyH.nil)
            · skip
              go_simp
              refine (CC.out A2 n2 c2 _ hb2 hS2).mono ?_
              rintro e wc3 ⟨rfl, hB3⟩
              have hb3 := hb2.trans (hB3.mono hb2.size)
              clear hB3
              refine hK.out _ _ (ZZ.out _ hb3) (fun _ => ?_)
              clear hK K
              (try simp only [Act.put, List.setIfInBounds_toArray, List.set_cons_zero, List.set_cons_succ])
              refine Rt.take (i := 6) (d := 87) (v := (.tuple #[.agg #[.int .i64 0, .int .i64 0, .int .i64 0, .int .i64 0, .slice none 0 0, .slice none 0 0], .int .i64 7])) rfl rfl (by kernel_rfl) (by kernel_rfl) (by kernel_rfl) (fun _ _ _ h => h) (Or.inl ⟨by rfl, ?_⟩) (ZZ.out _ hb3) ?_
              · rintro w' ⟨z0, z1, z2, z3, z4⟩
                go_simp
              (try simp only [List.setIfInBounds_toArray, List.set_cons_zero, List.set_cons_succ])
              refine Rt.take (i := 7) (d := 94) (v := (.agg #[.int .i64 0, .int .i64 0, .int .i64 0, .int .i64 0, .slice none 0 0, .slice none 0 0])) rfl rfl (by kernel_rfl) (by kernel_rfl) (by kernel_rfl) (fun _ _ _ h => h) (Or.inl ⟨by rfl, ?_⟩) (ZZ.out _ hb3) ?_
              · rintro w' ⟨z0, z1, z2, z3, z4⟩
                go_simp
              (try simp only [List.setIfInBounds_toArray, List.set_cons_zero, List.set_cons_succ])
              refine Rt.take (i := 8) (d := 95) (v := (.int .i64 7)) rfl rfl (by kernel_rfl) (by kernel_rfl) (by kernel_rfl) (fun _ _ _ h => h) (Or.inl ⟨by rfl, ?_⟩) (ZZ.out _ hb3) ?_
              · rintro w' ⟨z0, z1, z2, z3, z4⟩
                go_simp
              (try simp only [List.setIfInBounds_toArray, List.set_cons_zero, List.set_cons_succ])
              refine wpAnyH_ready (rs := [9]) (by kernel_rfl) (by simp) ?_
              refine AllReadyH.cons rfl (fun K hK => ?_) AllReadyH.nil
              go_simp
              have hb4 := hb3.alloc hb3.size (.cells #[.int .i64 0, .int .i64 0, .int .i64 0, .int .i64 0, .slice none 0 0, .slice none 0 0] 28)
              have gz4 := Gb.new wc3 0 0 0 0 none 0 0 none 0 0
              have hp4 := hb3.size
              refine hK.out _ _ (ZZ.out _ hb4) (fun _ => ?_)
              clear hK K
              (try simp only [Act.put, List.setIfInBounds_toArray, List.set_cons_zero, List.set_cons_succ])
              obtain ⟨wa4, hW4⟩ : ∃ W, W = wc3.alloc (.cells #[.int .i64 0, .int .i64 0, .int .i64 0, .int .i64 0, .slice none 0 0, .slice none 0 0] 28) := ⟨_, rfl⟩
              rw [← hW4] at hb4 gz4
              rw [← hW4]
              clear hW4
              obtain ⟨u0, u1, u2, u3, u4, u5⟩ := Gb.six gz4
              have f0 := gz4.free 0
              have f1 := gz4.free 1
              have f2 := gz4.free 2
              have f3 := gz4.free 3
              have f4 := gz4.free 4
              have f5 := gz4.free 5
              refine wpAnyH_ready (rs := [10]) (by kernel_rfl) (by simp) ?_
              refine AllReadyH.cons rfl (fun K hK => ?_) AllReadyH.nil
              go_simp
              refine hK.out _ _ (ZZ.out _ (Se.below6 hb4 hp4 _ _ _ _ _ _)) (fun _ => ?_)
              clear hK K
              (try simp only [Act.put, List.setIfInBounds_toArray, List.set_cons_zero, List.set_cons_succ])
              refine Rt.take (i := 11) (d := 20) (v := (.int .i64 7)) rfl rfl (by kernel_rfl) (by kernel_rfl) (by kernel_rfl) (fun _ _ _ h => h) (Or.inl ⟨by rfl, ?_⟩) (ZZ.out _ (Se.below6 hb4 hp4 _ _ _ _ _ _)) ?_
              · rintro w' ⟨z0, z1, z2, z3, z4⟩
                go_simp
              (try simp only [List.setIfInBounds_toArray, List.set_cons_zero, List.set_cons_succ])
              refine wpAnyH_done (by kernel_rfl) ?_ _
              go_wp2_with fail
              go_meet
              exact ⟨rfl, Se.below6 hb4 hp4 _ _ _ _ _ _⟩
            · skip
              go_simp
              have hb5 := hb2.alloc hb2.size (.cells #[.int .i64 0, .int .i64 0, .int .i64 0, .int .i64 0, .slice none 0 0, .slice none 0 0] 28)
              have gz5 := Gb.new wp2 0 0 0 0 none 0 0 none 0 0
              have hp5 := hb2.size
              have sl5 := hS2.below ((Below.refl _ _).alloc (Nat.le_refl _) (.cells #[.int .i64 0, .int .i64 0, .int .i64 0, .int .i64 0, .slice none 0 0, .slice none 0 0] 28))
              refine hK.out _ _ (ZZ.out _ hb5) (fun _ => ?_)
              clear hK K
              (try simp only [Act.put, List.setIfInBounds_toArray, List.set_cons_zero, List.set_cons_succ])
              obtain ⟨wa5, hW5⟩ : ∃ W, W = wp2.alloc (.cells #[.int .i64 0, .int .i64 0, .int .i64 0, .int .i64 0, .slice none 0 0, .slice none 0 0] 28) := ⟨_, rfl⟩
              rw [← hW5] at hb5 gz5 sl5
              rw [← hW5]
              clear hW5
              refine wpAnyH_ready (rs := [5]) (by kernel_rfl) (by simp) ?_
              refine AllReadyH.cons rfl (fun K hK => ?_) AllReadyH.nil
              go_simp
              refine (CC.out A2 n2 c2 _ hb5 sl5).mono ?_
              rintro e wc6 ⟨rfl, hB6⟩
              have hb6 := hb5.trans (hB6.mono hb5.size)
              have gz6 : Gb wc6 _ 0 0 0 0 none 0 0 none 0 0 := Wd.Bx.below gz5 (Wd.Bx.lt gz5) hB6
              clear hB6
              refine hK.out _ _ (ZZ.out _ hb6) (fun _ => ?_)
              clear hK K
              (try simp only [Act.put, List.setIfInBounds_toArray, List.set_cons_zero, List.set_cons_succ])
              refine Rt.take (i := 6) (d := 87) (v := (.tuple #[.agg #[.int .i64 0, .int .i64 0, .int .i64 0, .int .i64 0, .slice none 0 0, .slice none 0 0], .int .i64 7])) rfl rfl (by kernel_rfl) (by kernel_rfl) (by kernel_rfl) (fun _ _ _ h => h) (Or.inl ⟨by rfl, ?_⟩) (ZZ.out _ hb6) ?_
              · rintro w' ⟨z0, z1, z2, z3, z4⟩
                go_simp
              (try simp only [List.setIfInBounds_toArray, List.set_cons_zero, List.set_cons_succ])
              refine Rt.take (i := 7) (d := 94) (v := (.agg #[.int .i64 0, .int .i64 0, .int .i64 0, .int .i64 0, .slice none 0 0, .slice none 0 0])) rfl rfl (by kernel_rfl) (by kernel_rfl) (by kernel_rfl) (fun _ _ _ h => h) (Or.inl ⟨by rfl, ?_⟩) (ZZ.out _ hb6) ?_
              · rintro w' ⟨z0, z1, z2, z3, z4⟩
                go_simp
              (try simp only [List.setIfInBounds_toArray, List.set_cons_zero, List.set_cons_succ])
              refine Rt.take (i := 8) (d := 95) (v := (.int .i64 7)) rfl rfl (by kernel_rfl) (by kernel_rfl) (by kernel_rfl) (fun _ _ _ h => h) (Or.inl ⟨by rfl, ?_⟩) (ZZ.out _ hb6) ?_
              · rintro w' ⟨z0, z1, z2, z3, z4⟩
                go_simp
              (try simp only [List.setIfInBounds_toArray, List.set_cons_zero, List.set_cons_succ])
              obtain ⟨u0, u1, u2, u3, u4, u5⟩ := Gb.six gz6
              have f0 := gz6.free 0
              have f1 := gz6.free 1
              have f2 := gz6.free 2
              have f3 := gz6.free 3
              have f4 := gz6.free 4
              have f5 := gz6.free 5
              refine wpAnyH_ready (rs := [10]) (by kernel_rfl) (by simp) ?_
              refine AllReadyH.cons rfl (fun K hK => ?_) AllReadyH.nil
              go_simp
              refine hK.out _ _ (ZZ.out _ (Se.below6 hb6 hp5 _ _ _ _ _ _)) (fun _ => ?_)
              clear hK K
              (try simp only [Act.put, List.setIfInBounds_toArray, List.set_cons_zero, List.set_cons_succ])
              refine Rt.take (i := 11) (d := 20) (v := (.int .i64 7)) rfl rfl (by kernel_rfl) (by kernel_rfl) (by kernel_rfl) (fun _ _ _ h => h) (Or.inl ⟨by rfl, ?_⟩) (ZZ.out _ (Se.below6 hb6 hp5 _ _ _ _ _ _)) ?_
              · rintro w' ⟨z0, z1, z2, z3, z4⟩
                go_simp
              (try simp only [List.setIfInBounds_toArray, List.set_cons_zero, List.set_cons_succ])
              refine wpAnyH_done (by kernel_rfl) ?_ _
              go_wp2_with fail
              go_meet
              exact ⟨rfl, Se.below6 hb6 hp5 _ _ _ _ _ _⟩
          · skip
            go_simp
            have hb7 := hb1.alloc hb1.size (.cells #[.int .i64 0, .int .i64 0, .int .i64 0, .int .i64 0, .slice none 0 0, .slice none 0 0] 28)
            have gz7 := Gb.new wp1 0 0 0 0 none 0 0 none 0 0
            have hp7 := hb1.size
            have ow7 := hown1.alloc (.cells #[.int .i64 0, .int .i64 0, .int .i64 0, .int .i64 0, .slice none 0 0, .slice none 0 0] 28)
            refine hK.out _ _ (ZZ.out _ hb7) (fun _ => ?_)
            clear hK K
            (try simp only [Act.put, List.setIfInBounds_toArray, List.set_cons_zero, List.set_cons_succ])
            obtain ⟨wa7, hW7⟩ : ∃ W, W = wp1.alloc (.cells #[.int .i64 0, .int .i64 0, .int .i64 0, .int .i64 0, .slice none 0 0, .slice none 0 0] 28) := ⟨_, rfl⟩
            rw [← hW7] at hb7 gz7 ow7
            rw [← hW7]
            clear hW7
            refine wpAnyH_ready (rs := [4]) (by kernel_rfl) (by simp) ?_
            refine AllReadyH.cons rfl (fun K hK => ?_) AllReadyH.nil
            refine Rc.step_app wa7 rfl (.tmp 90) (.tmp 91) 32 rfl wc.heap.size 5 i0 _ .u8 1 Tryz.underlying32 hi hz0 hz1 hz2 rfl v1 (fileB x) rfl (ow7) wa7.heap.size M m d ms rfl Hm.out (HMc.out.below hb7).nil (HMc.out.below hb7).rd (by have := HL.out;  omega) (by have := HL.out;  unfold maxLen; omega) hb7.size ?_
            intro v8 wp8 hown8 hg8
            have hb8 := hb7.grown hg8 hb7.size (fun g hg => (ow7.lt g hg).1)
            have gz8 : Gb wp8 _ 0 0 0 0 none 0 0 none 0 0 := Wd.Bx.grown gz7 hg8 (Wd.Bx.apart gz7 ow7 (by decide))
            obtain ⟨A8, n8, c8, rfl, hS8⟩ := Wd.Sl.of_own hown8
            refine hK.out _ _ (ZZ.out _ hb8) (fun _ => ?_)
            clear hK K
            (try simp only [Act.put, List.setIfInBounds_toArray])
            refine wpAnyH_ready (rs := [5]) (by kernel_rfl) (by simp) ?_
            refine AllReadyH.cons rfl (fun K hK => ?_) AllReadyH.nil
            go_simp
            refine (CC.out A8 n8 c8 _ hb8 hS8).mono ?_
            rintro e wc9 ⟨rfl, hB9⟩
            have hb9 := hb8.trans (hB9.mono hb8.size)
            have gz9 : Gb wc9 _ 0 0 0 0 none 0 0 none 0 0 := Wd.Bx.below gz8 (Wd.Bx.lt gz8) hB9
            clear hB9
            refine hK.out _ _ (ZZ.out _ hb9) (fun _ => ?_)
            clear hK K
            (try simp only [Act.put, List.setIfInBounds_toArray, List.set_cons_zero, List.set_cons_succ])
            refine Rt.take (i := 6) (d := 87) (v := (.tuple #[.agg #[.int .i64 0, .int .i64 0, .int .i64 0, .int .i64 0, .slice none 0 0, .slice none 0 0], .int .i64 7])) rfl rfl (by kernel_rfl) (by kernel_rfl) (by kernel_rfl) (fun _ _ _ h => h) (Or.inl ⟨by rfl, ?_⟩) (ZZ.out _ hb9) ?_
            · rintro w' ⟨z0, z1, z2, z3, z4⟩
              go_simp
            (try simp only [List.setIfInBounds_toArray, List.set_cons_zero, List.set_cons_succ])
            refine Rt.take (i := 7) (d := 94) (v := (.agg #[.int .i64 0, .int .i64 0, .int .i64 0, .int .i64 0, .slice none 0 0, .slice none 0 0])) rfl rfl (by kernel_rfl) (by kernel_rfl) (by kernel_rfl) (fun _ _ _ h => h) (Or.inl ⟨by rfl, ?_⟩) (ZZ.out _ hb9) ?_
            · rintro w' ⟨z0, z1, z2, z3, z4⟩
              go_simp
            (try simp only [List.setIfInBounds_toArray, List.set_cons_zero, List.set_cons_succ])
            refine Rt.take (i := 8) (d := 95) (v := (.int .i64 7)) rfl rfl (by kernel_rfl) (by kernel_rfl) (by kernel_rfl) (fun _ _ _ h => h) (Or.inl ⟨by rfl, ?_⟩) (ZZ.out _ hb9) ?_
            · rintro w' ⟨z0, z1, z2, z3, z4⟩
              go_simp
            (try simp only [List.setIfInBounds_toArray, List.set_cons_zero, List.set_cons_succ])
            obtain ⟨u0, u1, u2, u3, u4, u5⟩ := Gb.six gz9
            have f0 := gz9.free 0
            have f1 := gz9.free 1
            have f2 := gz9.free 2
            have f3 := gz9.free 3
            have f4 := gz9.free 4
            have f5 := gz9.free 5
            refine wpAnyH_ready (rs := [10]) (by kernel_rfl) (by simp) ?_
            refine AllReadyH.cons rfl (fun K hK => ?_) AllReadyH.nil
            go_simp
            refine hK.out _ _ (ZZ.out _ (Se.below6 hb9 hp7 _ _ _ _ _ _)) (fun _ => ?_)
            clear hK K
            (try simp only [Act.put, List.setIfInBounds_toArray, List.set_cons_zero, List.set_cons_succ])
            refine Rt.take (i := 11) (d := 20) (v := (.int .i64 7)) rfl rfl (by kernel_rfl) (by kernel_rfl) (by kernel_rfl) (fun _ _ _ h => h) (Or.inl ⟨by rfl, ?_⟩) (ZZ.out _ (Se.below6 hb9 hp7 _ _ _ _ _ _)) ?_
            · rintro w' ⟨z0, z1, z2, z3, z4⟩
              go_simp
            (try simp only [List.setIfInBounds_toArray, List.set_cons_zero, List.set_cons_succ])
            refine wpAnyH_done (by kernel_rfl) ?_ _
            go_wp2_with fail
            go_meet
            exact ⟨rfl, Se.below6 hb9 hp7 _ _ _ _ _ _⟩
        · skip
          go_simp
          have hb10 := hb0.alloc hb0.size (.cells #[.int .i64 0, .int .i64 0, .int .i64 0, .int .i64 0, .slice none 0 0, .slice none 0 0] 28)
          have gz10 := Gb.new W0 0 0 0 0 none 0 0 none 0 0
          have hp10 := hb0.size
          refine hK.out _ _ (ZZ.out _ hb10) (fun _ => ?_)
          clear hK K
          (try simp only [Act.put, List.setIfInBounds_toArray, List.set_cons_zero, List.set_cons_succ])
          obtain ⟨wa10, hW10⟩ : ∃ W, W = W0.alloc (.cells #[.int .i64 0, .int .i64 0, .int .i64 0, .int .i64 0, .slice none 0 0, .slice none 0 0] 28) := ⟨_, rfl⟩
          rw [← hW10] at hb10 gz10
          rw [← hW10]
          clear hW10
          refine wpAnyH_ready (rs := [2]) (by kernel_rfl) (by simp) ?_
          refine AllReadyH.cons rfl (fun K hK => ?_) AllReadyH.nil
          refine Rc.step_app wa10 rfl (.const (.slice none 0 0)) (.tmp 89) 32 rfl wc.heap.size 5 i0 _ .u8 1 Tryz.underlying32 hi hz0 hz1 hz2 rfl (.slice none 0 0) [] rfl (World.ownsRow_nil _ _ _ _) wa10.heap.size B5 n5 c5 (fileB x) rfl H5n.out (HSc.out.below hb10).nil (HSc.out.below hb10).rd (by have := HL.out; simp only [List.length_nil]; omega) (by have := HL.out; simp only [List.length_nil]; unfold maxLen; omega) hb10.size ?_
          intro v11 wp11 hown11 hg11
          have hb11 := hb10.grown hg11 hb10.size (by simp [Value.ownBlock])
          have gz11 : Gb wp11 _ 0 0 0 0 none 0 0 none 0 0 := Wd.Bx.grown gz10 hg11 (by simp [Value.ownBlock])
          rw [List.nil_append] at hown11
          refine hK.out _ _ (ZZ.out _ hb11) (fun _ => ?_)
          clear hK K
          (try simp only [Act.put, List.setIfInBounds_toArray])
          refine wpAnyH_ready (rs := [4]) (by kernel_rfl) (by simp) ?_
          refine AllReadyH.cons rfl (fun K hK => ?_) AllReadyH.nil
          refine Rc.step_app wp11 rfl (.tmp 90) (.tmp 91) 32 rfl wc.heap.size 5 i0 _ .u8 1 Tryz.underlying32 hi hz0 hz1 hz2 rfl v11 (fileB x) rfl (hown11) wp11.heap.size M m d ms rfl Hm.out (HMc.out.below hb11).nil (HMc.out.below hb11).rd (by have := HL.out;  omega) (by have := HL.out;  unfold maxLen; omega) hb11.size ?_
          intro v12 wp12 hown12 hg12
          have hb12 := hb11.grown hg12 hb11.size (fun g hg => (hown11.lt g hg).1)
          have gz12 : Gb wp12 _ 0 0 0 0 none 0 0 none 0 0 := Wd.Bx.grown gz11 hg12 (Wd.Bx.apart gz11 hown11 (by decide))
          obtain ⟨A12, n12, c12, rfl, hS12⟩ := Wd.Sl.of_own hown12
          refine hK.out _ _ (ZZ.out _ hb12) (fun _ => ?_)
          clear hK K
          (try simp only [Act.put])
          refine wpAnyH_ready (rs := [5]) (by kernel_rfl) (by simp) ?_
          refine AllReadyH.cons rfl (fun K hK => ?_) AllReadyH.nil
          go_simp
          refine (CC.out A12 n12 c12 _ hb12 hS12).mono ?_
          rintro e wc13 ⟨rfl, hB13⟩
          have hb13 := hb12.trans (hB13.mono hb12.size)
          have gz13 : Gb wc13 _ 0 0 0 0 none 0 0 none 0 0 := Wd.Bx.below gz12 (Wd.Bx.lt gz12) hB13
          clear hB13
          refine hK.out _ _ (ZZ.out _ hb13) (fun _ => ?_)
          clear hK K
          (try simp only [Act.put, List.setIfInBounds_toArray, List.set_cons_zero, List.set_cons_succ])
          refine Rt.take (i := 6) (d := 87) (v := (.tuple #[.agg #[.int .i64 0, .int .i64 0, .int .i64 0, .int .i64 0, .slice none 0 0, .slice none 0 0], .int .i64 7])) rfl rfl (by kernel_rfl) (by kernel_rfl) (by kernel_rfl) (fun _ _ _ h => h) (Or.inl ⟨by rfl, ?_⟩) (ZZ.out _ hb13) ?_
          · rintro w' ⟨z0, z1, z2, z3, z4⟩
            go_simp
          (try simp only [List.setIfInBounds_toArray, List.set_cons_zero, List.set_cons_succ])
          refine Rt.take (i := 7) (d := 94) (v := (.agg #[.int .i64 0, .int .i64 0, .int .i64 0, .int .i64 0, .slice none 0 0, .slice none 0 0])) rfl rfl (by kernel_rfl) (by kernel_rfl) (by kernel_rfl) (fun _ _ _ h => h) (Or.inl ⟨by rfl, ?_⟩) (ZZ.out _ hb13) ?_
          · rintro w' ⟨z0, z1, z2, z3, z4⟩
            go_simp
          (try simp only [List.setIfInBounds_toArray, List.set_cons_zero, List.set_cons_succ])
          refine Rt.take (i := 8) (d := 95) (v := (.int .i64 7)) rfl rfl (by kernel_rfl) (by kernel_rfl) (by kernel_rfl) (fun _ _ _ h => h) (Or.inl ⟨by rfl, ?_⟩) (ZZ.out _ hb13) ?_
          · rintro w' ⟨z0, z1, z2, z3, z4⟩
            go_simp
          (try simp only [List.setIfInBounds_toArray, List.set_cons_zero, List.set_cons_succ])
          obtain ⟨u0, u1, u2, u3, u4, u5⟩ := Gb.six gz13
          have f0 := gz13.free 0
          have f1 := gz13.free 1
          have f2 := gz13.free 2
          have f3 := gz13.free 3
          have f4 := gz13.free 4
          have f5 := gz13.free 5
          refine wpAnyH_ready (rs := [10]) (by kernel_rfl) (by simp) ?_
          refine AllReadyH.cons rfl (fun K hK => ?_) AllReadyH.nil
          go_simp
          refine hK.out _ _ (ZZ.out _ (Se.below6 hb13 hp10 _ _ _ _ _ _)) (fun _ => ?_)
          clear hK K
          (try simp only [Act.put, List.setIfInBounds_toArray, List.set_cons_zero, List.set_cons_succ])
          refine Rt.take (i := 11) (d := 20) (v := (.int .i64 7)) rfl rfl (by kernel_rfl) (by kernel_rfl) (by kernel_rfl) (fun _ _ _ h => h) (Or.inl ⟨by rfl, ?_⟩) (ZZ.out _ (Se.below6 hb13 hp10 _ _ _ _ _ _)) ?_
          · rintro w' ⟨z0, z1, z2, z3, z4⟩
            go_simp
          (try simp only [List.setIfInBounds_toArray, List.set_cons_zero, List.set_cons_succ])
          refine wpAnyH_done (by kernel_rfl) ?_ _
          go_wp2_with fail
          go_meet
          exact ⟨rfl, Se.below6 hb13 hp10 _ _ _ _ _ _⟩
      case rest =>
        obtain ⟨rfl, hbd⟩ := hcut
        have Hd := Lib.hid (Hc.out.below hbd)
        clear hbd
        go_wp2_with fail
        go_ret
        exact ⟨rfl, Hd.out.b⟩
    · have j1 : decide (0 ≤ cut) = false := decide_eq_false hc2
      clear hc1 hwc
      go_upto_region 15 with fail
      rw [← Hwc.out]
      clear j1 hc2
      have Hc := Lib.hid (H8.out.below hbc)
      have HSc := Lib.hid (HS8.out.below hbc)
      have HMc := Lib.hid (HM.out.below Hc.out.b)
      clear hbc
      by_cases hm0 : m = 0
      case pos =>
        have k0 : decide (0 < m) = false := by simp; omega
        subst hm0
        go_wp2_with fail
        go_ret
        exact ⟨rfl, Hc.out.b⟩
      have k1 : (0 : Int) < (m : Int) := by omega
      have k2 : decide (0 < m) = true := decide_eq_true (by omega)
      have hms : ms ≠ [] := fun e => hm0 (by rw [Hm.out, e]; rfl)
      have Hbad := Lib.hid (bad_more HG.out hms)
      have HL := Lib.hid (show (fileB x).length + ms.length ≤ 930100 by have := HG.out.len; have := Hm.out; omega)
      have Hby := Lib.hid (Rn.byt_app (file_byt HG.out) HF.out)
      clear hms hm0
      go_upto_region 16 with fail
      go_cut [20] (fun v wz => v = .int .i64 7 ∧ Below wc.heap.size wc wz)
      case first =>
        have ZZ := Lib.hid (fun (W : World) (hb : Below wc.heap.size wc W) => five (Hc.out.below hb).s)
        have CC := Lib.hid (fun (R : Option Addr) (r rc : Nat) (W : World) (hb : Below wc.heap.size wc W) (h : Wd.Sl W .u8 R r rc (fileB x ++ ms)) => Decode_no A n c s R r rc x W (HS.out.below (Hc.out.b.trans (hb.mono Hc.out.b.size))) Hok.out HG.out (by omega) _ h Hby.out (by have := h.len; rw [List.length_append] at this; have := HL.out; omega) Hbad.out)
        refine wp_region_any (by kernel_rfl) ?_
        refine wpAny_of_held (S := fun w' => w'.cell? ⟨w.heap.size, 0, none⟩ = some (.slice A n c) ∧ w'.cell? ⟨w.heap.size, 1, none⟩ = some (.int .i64 s.key) ∧ w'.cell? ⟨w.heap.size, 2, none⟩ = some (.int .i64 s.cmp) ∧ w'.cell? ⟨w.heap.size, 3, none⟩ = some (.int .i64 s.del) ∧ w'.cell? ⟨w.heap.size, 4, none⟩ = some (.int .i64 s.sort)) _ _ _ _ ?_
        change wpAnyH _ _ _ _ _ 12 (Array.replicate 12 false) _ wc.drew
        have hb0 : Below wc.heap.size wc wc.drew := (Below.refl _ _).drew
        generalize wc.drew = W0 at hb0 ⊢
        refine Rt.take (i := 0) (d := 88) (v := (.agg #[.slice A n c, .int .i64 s.key, .int .i64 s.cmp, .int .i64 s.del, .int .i64 s.sort])) rfl rfl (by kernel_rfl) (by kernel_rfl) (by kernel_rfl) (fun _ _ _ h => h) (Or.inl ⟨by rfl, ?_⟩) (ZZ.out _ hb0) ?_
        · rintro w' ⟨z0, z1, z2, z3, z4⟩
          go_simp
        (try simp only [List.setIfInBounds_toArray, List.set_cons_zero, List.set_cons_succ])
        refine Rt.take (i := 1) (d := 89) (v := (.slice B5 n5 c5)) rfl rfl (by kernel_rfl) (by kernel_rfl) (by kernel_rfl) (fun _ _ _ h => h) (Or.inl ⟨by rfl, ?_⟩) (ZZ.out _ hb0) ?_
        · rintro w' ⟨z0, z1, z2, z3, z4⟩
          go_simp
        (try simp only [List.setIfInBounds_toArray, List.set_cons_zero, List.set_cons_succ])
        refine Rt.take (i := 3) (d := 91) (v := (.slice M m d)) rfl rfl (by kernel_rfl) (by kernel_rfl) (by kernel_rfl) (fun _ _ _ h => h) (Or.inl ⟨by rfl, ?_⟩) (ZZ.out _ hb0) ?_
        · rintro w' ⟨z0, z1, z2, z3, z4⟩
          go_simp
        (try simp only [List.setIfInBounds_toArray, List.set_cons_zero, List.set_cons_succ])
        refine wpAnyH_ready (rs := [2, 9]) (by kernel_rfl) (by simp) ?_
        refine AllReadyH.cons rfl (fun K hK => ?_) (AllReadyH.cons rfl (fun K hK => ?_) AllReadyH.nil)
        · skip
          refine Rc.step_app W0 rfl (.const (.slice none 0 0)) (.tmp 89) 32 rfl wc.heap.size 5 i0 _ .u8 1 Tryz.underlying32 hi hz0 hz1 hz2 rfl (.slice none 0 0) [] rfl (World.ownsRow_nil _ _ _ _) W0.heap.size B5 n5 c5 (fileB x) rfl H5n.out (HSc.out.below hb0).nil (HSc.out.below hb0).rd (by have := HL.out; simp only [List.length_nil]; omega) (by have := HL.out; simp only [List.length_nil]; unfold maxLen; omega) hb0.size ?_
          intro v1 wp1 hown1 hg1
          have hb1 := hb0.grown hg1 hb0.size (by simp [Value.ownBlock])
          rw [List.nil_append] at hown1
          refine hK.out _ _ (ZZ.out _ hb1) (fun _ => ?_)
          clear hK K
          (try simp only [Act.put, List.setIfInBounds_toArray])
          refine wpAnyH_ready (rs := [4, 9]) (by kernel_rfl) (by simp) ?_
          refine AllReadyH.cons rfl (fun K hK => ?_) (AllReadyH.cons rfl (fun K hK => ?_) AllReadyH.nil)
          · skip
            refine Rc.step_app wp1 rfl (.tmp 90) (.tmp 91) 32 rfl wc.heap.size 5 i0 _ .u8 1 Tryz.underlying32 hi hz0 hz1 hz2 rfl v1 (fileB x) rfl (hown1) wp1.heap.size M m d ms rfl Hm.out (HMc.out.below hb1).nil (HMc.out.below hb1).rd (by have := HL.out;  omega) (by have := HL.out;  unfold maxLen; omega) hb1.size ?_
            intro v2 wp2 hown2 hg2
            have hb2 := hb1.grown hg2 hb1.size (fun g hg => (hown1.lt g hg).1)
            obtain ⟨A2, n2, c2, rfl, hS2⟩ := Wd.Sl.of_own hown2
            refine hK.out _ _ (ZZ.out _ hb2) (fun _ => ?_)
            clear hK K
            (try simp only [Act.put])
            refine wpAnyH_ready (rs := [5, 9]) (by kernel_rfl) (by simp) ?_
            refine AllReadyH.cons rfl (fun K hK => ?_) (AllReadyH.cons rfl (fun K hK => ?_) AllReadyH.nil)
            · skip
              go_simp
              refine (CC.out A2 n2 c2 _ hb2 hS2).mono ?_
              rintro e wc3 ⟨rfl, hB3⟩
              have hb3 := hb2.trans (hB3.mono hb2.size)
              clear hB3
              refine hK.out _ _ (ZZ.out _ hb3) (fun _ => ?_)
              clear hK K
              (try simp only [Act.put, List.setIfInBounds_toArray, List.set_cons_zero, List.set_cons_succ])
              refine Rt.take (i := 6) (d := 87) (v := (.tuple #[.agg #[.int .i64 0, .int .i64 0, .int .i64 0, .int .i64 0, .slice none 0 0, .slice none 0 0], .int .i64 7])) rfl rfl (by kernel_rfl) (by kernel_rfl) (by kernel_rfl) (fun _ _ _ h => h) (Or.inl ⟨by rfl, ?_⟩) (ZZ.out _ hb3) ?_
              · rintro w' ⟨z0, z1, z2, z3, z4⟩
                go_simp
              (try simp only [List.setIfInBounds_toArray, List.set_cons_zero, List.set_cons_succ])
              refine Rt.take (i := 7) (d := 94) (v := (.agg #[.int .i64 0, .int .i64 0, .int .i64 0, .int .i64 0, .slice none 0 0, .slice none 0 0])) rfl rfl (by kernel_rfl) (by kernel_rfl) (by kernel_rfl) (fun _ _ _ h => h) (Or.inl ⟨by rfl, ?_⟩) (ZZ.out _ hb3) ?_
              · rintro w' ⟨z0, z1, z2, z3, z4⟩
                go_simp
              (try simp only [List.setIfInBounds_toArray, List.set_cons_zero, List.set_cons_succ])
              refine Rt.take (i := 8) (d := 95) (v := (.int .i64 7)) rfl rfl (by kernel_rfl) (by kernel_rfl) (by kernel_rfl) (fun _ _ _ h => h) (Or.inl ⟨by rfl, ?_⟩) (ZZ.out _ hb3) ?_
              · rintro w' ⟨z0, z1, z2, z3, z4⟩
                go_simp
              (try simp only [List.setIfInBounds_toArray, List.set_cons_zero, List.set_cons_succ])
              refine wpAnyH_ready (rs := [9]) (by kernel_rfl) (by simp) ?_
              refine AllReadyH.cons rfl (fun K hK => ?_) AllReadyH.nil
              go_simp
              have hb4 := hb3.alloc hb3.size (.cells #[.int .i64 0, .int .i64 0, .int .i64 0, .int .i64 0, .slice none 0 0, .slice none 0 0] 28)
              have gz4 := Gb.new wc3 0 0 0 0 none 0 0 none 0 0
              have hp4 := hb3.size
              refine hK.out _ _ (ZZ.out _ hb4) (fun _ => ?_)
              clear hK K
              (try simp only [Act.put, List.setIfInBounds_toArray, List.set_cons_zero, List.set_cons_succ])
              obtain ⟨wa4, hW4⟩ : ∃ W, W = wc3.alloc (.cells #[.int .i64 0, .int .i64 0, .int .i64 0, .int .i64 0, .slice none 0 0, .slice none 0 0] 28) := ⟨_, rfl⟩
              rw [← hW4] at hb4 gz4
              rw [← hW4]
              clear hW4
              obtain ⟨u0, u1, u2, u3, u4, u5⟩ := Gb.six gz4
              have f0 := gz4.free 0
              have f1 := gz4.free 1
              have f2 := gz4.free 2
              have f3 := gz4.free 3
              have f4 := gz4.free 4
              have f5 := gz4.free 5
              refine wpAnyH_ready (rs := [10]) (by kernel_rfl) (by simp) ?_
              refine AllReadyH.cons rfl (fun K hK => ?_) AllReadyH.nil
              go_simp
              refine hK.out _ _ (ZZ.out _ (Se.below6 hb4 hp4 _ _ _ _ _ _)) (fun _ => ?_)
              clear hK K
              (try simp only [Act.put, List.setIfInBounds_toArray, List.set_cons_zero, List.set_cons_succ])
              refine Rt.take (i := 11) (d := 20) (v := (.int .i64 7)) rfl rfl (by kernel_rfl) (by kernel_rfl) (by kernel_rfl) (fun _ _ _ h => h) (Or.inl ⟨by rfl, ?_⟩) (ZZ.out _ (Se.below6 hb4 hp4 _ _ _ _ _ _)) ?_
              · rintro w' ⟨z0, z1, z2, z3, z4⟩
                go_simp
              (try simp only [List.setIfInBounds_toArray, List.set_cons_zero, List.set_cons_succ])
              refine wpAnyH_done (by kernel_rfl) ?_ _
              go_wp2_with fail
              go_meet
              exact ⟨rfl, Se.below6 hb4 hp4 _ _ _ _ _ _⟩
            · skip
              go_simp
              have hb5 := hb2.alloc hb2.size (.cells #[.int .i64 0, .int .i64 0, .int .i64 0, .int .i64 0, .slice none 0 0, .slice none 0 0] 28)
              have gz5 := Gb.new wp2 0 0 0 0 none 0 0 none 0 0
              have hp5 := hb2.size
              have sl5 := hS2.below ((Below.refl _ _).alloc (Nat.le_refl _) (.cells #[.int .i64 0, .int .i64 0, .int .i64 0, .int .i64 0, .slice none 0 0, .slice none 0 0] 28))
              refine hK.out _ _ (ZZ.out _ hb5) (fun _ => ?_)
              clear hK K
              (try simp only [Act.put, List.setIfInBounds_toArray, List.set_cons_zero, List.set_cons_succ])
              obtain ⟨wa5, hW5⟩ : ∃ W, W = wp2.alloc (.cells #[.int .i64 0, .int .i64 0, .int .i64 0, .int .i64 0, .slice none 0 0, .slice none 0 0] 28) := ⟨_, rfl⟩
              rw [← hW5] at hb5 gz5 sl5
              rw [← hW5]
              clear hW5
              refine wpAnyH_ready (rs := [5]) (by kernel_rfl) (by simp) ?_
              refine AllReadyH.cons rfl (fun K hK => ?_) AllReadyH.nil
              go_simp
              refine (CC.out A2 n2 c2 _ hb5 sl5).mono ?_
              rintro e wc6 ⟨rfl, hB6⟩
              have hb6 := hb5.trans (hB6.mono hb5.size)
              have gz6 : Gb wc6 _ 0 0 0 0 none 0 0 none 0 0 := Wd.Bx.below gz5 (Wd.Bx.lt gz5) hB6
              clear hB6
              refine hK.out _ _ (ZZ.out _ hb6) (fun _ => ?_)
              clear hK K
              (try simp only [Act.put, List.setIfInBounds_toArray, List.set_cons_zero, List.set_cons_succ])
              refine Rt.take (i := 6) (d := 87) (v := (.tuple #[.agg #[.int .i64 0, .int .i64 0, .int .i64 0, .int .i64 0, .slice none 0 0, .slice none 0 0], .int .i64 7])) rfl rfl (by kernel_rfl) (by kernel_rfl) (by kernel_rfl) (fun _ _ _ h => h) (Or.inl ⟨by rfl, ?_⟩) (ZZ.out _ hb6) ?_
              · rintro w' ⟨z0, z1, z2, z3, z4⟩
                go_simp
              (try simp only [List.setIfInBounds_toArray, List.set_cons_zero, List.set_cons_succ])
              refine Rt.take (i := 7) (d := 94) (v := (.agg #[.int .i64 0, .int .i64 0, .int .i64 0, .int .i64 0, .slice none 0 0, .slice none 0 0])) rfl rfl (by kernel_rfl) (by kernel_rfl) (by kernel_rfl) (fun _ _ _ h => h) (Or.inl ⟨by rfl, ?_⟩) (ZZ.out _ hb6) ?_
              · rintro w' ⟨z0, z1, z2, z3, z4⟩
                go_simp
              (try simp only [List.setIfInBounds_toArray, List.set_cons_zero, List.set_cons_succ])
              refine Rt.take (i := 8) (d := 95) (v := (.int .i64 7)) rfl rfl (by kernel_rfl) (by kernel_rfl) (by kernel_rfl) (fun _ _ _ h => h) (Or.inl ⟨by rfl, ?_⟩) (ZZ.out _ hb6) ?_
              · rintro w' ⟨z0, z1, z2, z3, z4⟩
                go_simp
              (try simp only [List.setIfInBounds_toArray, List.set_cons_zero, List.set_cons_succ])
              obtain ⟨u0, u1, u2, u3, u4, u5⟩ := Gb.six gz6
              have f0 := gz6.free 0
              have f1 := gz6.free 1
              have f2 := gz6.free 2
              have f3 := gz6.free 3
              have f4 := gz6.free 4
              have f5 := gz6.free 5
              refine wpAnyH_ready (rs := [10]) (by kernel_rfl) (by simp) ?_
              refine AllReadyH.cons rfl (fun K hK => ?_) AllReadyH.nil
              go_simp
              refine hK.out _ _ (ZZ.out _ (Se.below6 hb6 hp5 _ _ _ _ _ _)) (fun _ => ?_)
              clear hK K
              (try simp only [Act.put, List.setIfInBounds_toArray, List.set_cons_zero, List.set_cons_succ])
              refine Rt.take (i := 11) (d := 20) (v := (.int .i64 7)) rfl rfl (by kernel_rfl) (by kernel_rfl) (by kernel_rfl) (fun _ _ _ h => h) (Or.inl ⟨by rfl, ?_⟩) (ZZ.out _ (Se.below6 hb6 hp5 _ _ _ _ _ _)) ?_
              · rintro w' ⟨z0, z1, z2, z3, z4⟩
                go_simp
              (try simp only [List.setIfInBounds_toArray, List.set_cons_zero, List.set_cons_succ])
              refine wpAnyH_done (by kernel_rfl) ?_ _
              go_wp2_with fail
              go_meet
              exact ⟨rfl, Se.below6 hb6 hp5 _ _ _ _ _ _⟩
          · skip
            go_simp
            have hb7 := hb1.alloc hb1.size (.cells #[.int .i64 0, .int .i64 0, .int .i64 0, .int .i64 0, .slice none 0 0, .slice none 0 0] 28)
            have gz7 := Gb.new wp1 0 0 0 0 none 0 0 none 0 0
            have hp7 := hb1.size
            have ow7 := hown1.alloc (.cells #[.int .i64 0, .int .i64 0, .int .i64 0, .int .i64 0, .slice none 0 0, .slice none 0 0] 28)
            refine hK.out _ _ (ZZ.out _ hb7) (fun _ => ?_)
            clear hK K
            (try simp only [Act.put, List.setIfInBounds_toArray, List.set_cons_zero, List.set_cons_succ])
            obtain ⟨wa7, hW7⟩ : ∃ W, W = wp1.alloc (.cells #[.int .i64 0, .int .i64 0, .int .i64 0, .int .i64 0, .slice none 0 0, .slice none 0 0] 28) := ⟨_, rfl⟩
            rw [← hW7] at hb7 gz7 ow7
            rw [← hW7]
            clear hW7
            refine wpAnyH_ready (rs := [4]) (by kernel_rfl) (by simp) ?_
            refine AllReadyH.cons rfl (fun K hK => ?_) AllReadyH.nil
            refine Rc.step_app wa7 rfl (.tmp 90) (.tmp 91) 32 rfl wc.heap.size 5 i0 _ .u8 1 Tryz.underlying32 hi hz0 hz1 hz2 rfl v1 (fileB x) rfl (ow7) wa7.heap.size M m d ms rfl Hm.out (HMc.out.below hb7).nil (HMc.out.below hb7).rd (by have := HL.out;  omega) (by have := HL.out;  unfold maxLen; omega) hb7.size ?_
            intro v8 wp8 hown8 hg8
            have hb8 := hb7.grown hg8 hb7.size (fun g hg => (ow7.lt g hg).1)
            have gz8 : Gb wp8 _ 0 0 0 0 none 0 0 none 0 0 := Wd.Bx.grown gz7 hg8 (Wd.Bx.apart gz7 ow7 (by decide))
            obtain ⟨A8, n8, c8, rfl, hS8⟩ := Wd.Sl.of_own hown8
            refine hK.out _ _ (ZZ.out _ hb8) (fun _ => ?_)
            clear hK K
            (try simp only [Act.put, List.setIfInBounds_toArray])
            refine wpAnyH_ready (rs := [5]) (by kernel_rfl) (by simp) ?_
            refine AllReadyH.cons rfl (fun K hK => ?_) AllReadyH.nil
            go_simp
            refine (CC.out A8 n8 c8 _ hb8 hS8).mono ?_
            rintro e wc9 ⟨rfl, hB9⟩
            have hb9 := hb8.trans (hB9.mono hb8.size)
            have gz9 : Gb wc9 _ 0 0 0 0 none 0 0 none 0 0 := Wd.Bx.below gz8 (Wd.Bx.lt gz8) hB9
            clear hB9
            refine hK.out _ _ (ZZ.out _ hb9) (fun _ => ?_)
            clear hK K
            (try simp only [Act.put, List.setIfInBounds_toArray, List.set_cons_zero, List.set_cons_succ])
            refine Rt.take (i := 6) (d := 87) (v := (.tuple #[.agg #[.int .i64 0, .int .i64 0, .int .i64 0, .int .i64 0, .slice none 0 0, .slice none 0 0], .int .i64 7])) rfl rfl (by kernel_rfl) (by kernel_rfl) (by kernel_rfl) (fun _ _ _ h => h) (Or.inl ⟨by rfl, ?_⟩) (ZZ.out _ hb9) ?_
            · rintro w' ⟨z0, z1, z2, z3, z4⟩
              go_simp
            (try simp only [List.setIfInBounds_toArray, List.set_cons_zero, List.set_cons_succ])
            refine Rt.take (i := 7) (d := 94) (v := (.agg #[.int .i64 0, .int .i64 0, .int .i64 0, .int .i64 0, .slice none 0 0, .slice none 0 0])) rfl rfl (by kernel_rfl) (by kernel_rfl) (by kernel_rfl) (fun _ _ _ h => h) (Or.inl ⟨by rfl, ?_⟩) (ZZ.out _ hb9) ?_
            · rintro w' ⟨z0, z1, z2, z3, z4⟩
              go_simp
            (try simp only [List.setIfInBounds_toArray, List.set_cons_zero, List.set_cons_succ])
            refine Rt.take (i := 8) (d := 95) (v := (.int .i64 7)) rfl rfl (by kernel_rfl) (by kernel_rfl) (by kernel_rfl) (fun _ _ _ h => h) (Or.inl ⟨by rfl, ?_⟩) (ZZ.out _ hb9) ?_
            · rintro w' ⟨z0, z1, z2, z3, z4⟩
              go_simp
            (try simp only [List.setIfInBounds_toArray, List.set_cons_zero, List.set_cons_succ])
            obtain ⟨u0, u1, u2, u3, u4, u5⟩ := Gb.six gz9
            have f0 := gz9.free 0
            have f1 := gz9.free 1
            have f2 := gz9.free 2
            have f3 := gz9.free 3
            have f4 := gz9.free 4
            have f5 := gz9.free 5
            refine wpAnyH_ready (rs := [10]) (by kernel_rfl) (by simp) ?_
            refine AllReadyH.cons rfl (fun K hK => ?_) AllReadyH.nil
            go_simp
            refine hK.out _ _ (ZZ.out _ (Se.below6 hb9 hp7 _ _ _ _ _ _)) (fun _ => ?_)
            clear hK K
            (try simp only [Act.put, List.setIfInBounds_toArray, List.set_cons_zero, List.set_cons_succ])
            refine Rt.take (i := 11) (d := 20) (v := (.int .i64 7)) rfl rfl (by kernel_rfl) (by kernel_rfl) (by kernel_rfl) (fun _ _ _ h => h) (Or.inl ⟨by rfl, ?_⟩) (ZZ.out _ (Se.below6 hb9 hp7 _ _ _ _ _ _)) ?_
            · rintro w' ⟨z0, z1, z2, z3, z4⟩
              go_simp
            (try simp only [List.setIfInBounds_toArray, List.set_cons_zero, List.set_cons_succ])
            refine wpAnyH_done (by kernel_rfl) ?_ _
            go_wp2_with fail
            go_meet
            exact ⟨rfl, Se.below6 hb9 hp7 _ _ _ _ _ _⟩
        · skip
          go_simp
          have hb10 := hb0.alloc hb0.size (.cells #[.int .i64 0, .int .i64 0, .int .i64 0, .int .i64 0, .slice none 0 0, .slice none 0 0] 28)
          have gz10 := Gb.new W0 0 0 0 0 none 0 0 none 0 0
          have hp10 := hb0.size
          refine hK.out _ _ (ZZ.out _ hb10) (fun _ => ?_)
          clear hK K
          (try simp only [Act.put, List.setIfInBounds_toArray, List.set_cons_zero, List.set_cons_succ])
          obtain ⟨wa10, hW10⟩ : ∃ W, W = W0.alloc (.cells #[.int .i64 0, .int .i64 0, .int .i64 0, .int .i64 0, .slice none 0 0, .slice none 0 0] 28) := ⟨_, rfl⟩
          rw [← hW10] at hb10 gz10
          rw [← hW10]
          clear hW10
          refine wpAnyH_ready (rs := [2]) (by kernel_rfl) (by simp) ?_
          refine AllReadyH.cons rfl (fun K hK => ?_) AllReadyH.nil
          refine Rc.step_app wa10 rfl (.const (.slice none 0 0)) (.tmp 89) 32 rfl wc.heap.size 5 i0 _ .u8 1 Tryz.underlying32 hi hz0 hz1 hz2 rfl (.slice none 0 0) [] rfl (World.ownsRow_nil _ _ _ _) wa10.heap.size B5 n5 c5 (fileB x) rfl H5n.out (HSc.out.below hb10).nil (HSc.out.below hb10).rd (by have := HL.out; simp only [List.length_nil]; omega) (by have := HL.out; simp only [List.length_nil]; unfold maxLen; omega) hb10.size ?_
          intro v11 wp11 hown11 hg11
          have hb11 := hb10.grown hg11 hb10.size (by simp [Value.ownBlock])
          have gz11 : Gb wp11 _ 0 0 0 0 none 0 0 none 0 0 := Wd.Bx.grown gz10 hg11 (by simp [Value.ownBlock])
          rw [List.nil_append] at hown11
          refine hK.out _ _ (ZZ.out _ hb11) (fun _ => ?_)
          clear hK K
          (try simp only [Act.put, List.setIfInBounds_toArray])
          refine wpAnyH_ready (rs := [4]) (by kernel_rfl) (by simp) ?_
          refine AllReadyH.cons rfl (fun K hK => ?_) AllReadyH.nil
          refine Rc.step_app wp11 rfl (.tmp 90) (.tmp 91) 32 rfl wc.heap.size 5 i0 _ .u8 1 Tryz.underlying32 hi hz0 hz1 hz2 rfl v11 (fileB x) rfl (hown11) wp11.heap.size M m d ms rfl Hm.out (HMc.out.below hb11).nil (HMc.out.below hb11).rd (by have := HL.out;  omega) (by have := HL.out;  unfold maxLen; omega) hb11.size ?_
          intro v12 wp12 hown12 hg12
          have hb12 := hb11.grown hg12 hb11.size (fun g hg => (hown11.lt g hg).1)
          have gz12 : Gb wp12 _ 0 0 0 0 none 0 0 none 0 0 := Wd.Bx.grown gz11 hg12 (Wd.Bx.apart gz11 hown11 (by decide))
          obtain ⟨A12, n12, c12, rfl, hS12⟩ := Wd.Sl.of_own hown12
          refine hK.out _ _ (ZZ.out _ hb12) (fun _ => ?_)
          clear hK K
          (try simp only [Act.put])
          refine wpAnyH_ready (rs := [5]) (by kernel_rfl) (by simp) ?_
          refine AllReadyH.cons rfl (fun K hK => ?_) AllReadyH.nil
          go_simp
          refine (CC.out A12 n12 c12 _ hb12 hS12).mono ?_
          rintro e wc13 ⟨rfl, hB13⟩
          have hb13 := hb12.trans (hB13.mono hb12.size)
          have gz13 : Gb wc13 _ 0 0 0 0 none 0 0 none 0 0 := Wd.Bx.below gz12 (Wd.Bx.lt gz12) hB13
          clear hB13
          refine hK.out _ _ (ZZ.out _ hb13) (fun _ => ?_)
          clear hK K
          (try simp only [Act.put, List.setIfInBounds_toArray, List.set_cons_zero, List.set_cons_succ])
          refine Rt.take (i := 6) (d := 87) (v := (.tuple #[.agg #[.int .i64 0, .int .i64 0, .int .i64 0, .int .i64 0, .slice none 0 0, .slice none 0 0], .int .i64 7])) rfl rfl (by kernel_rfl) (by kernel_rfl) (by kernel_rfl) (fun _ _ _ h => h) (Or.inl ⟨by rfl, ?_⟩) (ZZ.out _ hb13) ?_
          · rintro w' ⟨z0, z1, z2, z3, z4⟩
            go_simp
          (try simp only [List.setIfInBounds_toArray, List.set_cons_zero, List.set_cons_succ])
          refine Rt.take (i := 7) (d := 94) (v := (.agg #[.int .i64 0, .int .i64 0, .int .i64 0, .int .i64 0, .slice none 0 0, .slice none 0 0])) rfl rfl (by kernel_rfl) (by kernel_rfl) (by kernel_rfl) (fun _ _ _ h => h) (Or.inl ⟨by rfl, ?_⟩) (ZZ.out _ hb13) ?_
          · rintro w' ⟨z0, z1, z2, z3, z4⟩
            go_simp
          (try simp only [List.setIfInBounds_toArray, List.set_cons_zero, List.set_cons_succ])
          refine Rt.take (i := 8) (d := 95) (v := (.int .i64 7)) rfl rfl (by kernel_rfl) (by kernel_rfl) (by kernel_rfl) (fun _ _ _ h => h) (Or.inl ⟨by rfl, ?_⟩) (ZZ.out _ hb13) ?_
          · rintro w' ⟨z0, z1, z2, z3, z4⟩
            go_simp
          (try simp only [List.setIfInBounds_toArray, List.set_cons_zero, List.set_cons_succ])
          obtain ⟨u0, u1, u2, u3, u4, u5⟩ := Gb.six gz13
          have f0 := gz13.free 0
          have f1 := gz13.free 1
          have f2 := gz13.free 2
          have f3 := gz13.free 3
          have f4 := gz13.free 4
          have f5 := gz13.free 5
          refine wpAnyH_ready (rs := [10]) (by kernel_rfl) (by simp) ?_
          refine AllReadyH.cons rfl (fun K hK => ?_) AllReadyH.nil
          go_simp
          refine hK.out _ _ (ZZ.out _ (Se.below6 hb13 hp10 _ _ _ _ _ _)) (fun _ => ?_)
          clear hK K
          (try simp only [Act.put, List.setIfInBounds_toArray, List.set_cons_zero, List.set_cons_succ])
          refine Rt.take (i := 11) (d := 20) (v := (.int .i64 7)) rfl rfl (by kernel_rfl) (by kernel_rfl) (by kernel_rfl) (fun _ _ _ h => h) (Or.inl ⟨by rfl, ?_⟩) (ZZ.out _ (Se.below6 hb13 hp10 _ _ _ _ _ _)) ?_
          · rintro w' ⟨z0, z1, z2, z3, z4⟩
            go_simp
          (try simp only [List.setIfInBounds_toArray, List.set_cons_zero, List.set_cons_succ])
          refine wpAnyH_done (by kernel_rfl) ?_ _
          go_wp2_with fail
          go_meet
          exact ⟨rfl, Se.below6 hb13 hp10 _ _ _ _ _ _⟩
      case rest =>
        obtain ⟨rfl, hbd⟩ := hcut
        have Hd := Lib.hid (Hc.out.below hbd)
        clear hbd
        go_wp2_with fail
        go_ret
        exact ⟨rfl, Hd.out.b⟩
end Lw
end Go.Proofs.YtaoeipehpakngaaGreatDoor
