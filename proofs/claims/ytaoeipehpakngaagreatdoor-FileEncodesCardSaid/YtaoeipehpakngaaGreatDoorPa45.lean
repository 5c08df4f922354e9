/- The reference's Encode of a segment. What the reference's Few does. From an argument as the statement reads it to a column. From an argument as the statement reads it to a segment. -/
import Derived.BigRegion
import Derived.BigQuiet
import Derived.Deep.QuietTactic
import Derived.ProofKit
import Derived.OpenShut
import Derived.Test.YtaoeipehpakngaaGreatDoorPa37
import Derived.Test.YtaoeipehpakngaaGreatDoorPa41
import Derived.Test.YtaoeipehpakngaaGreatDoorPa22
import Derived.Test.YtaoeipehpakngaaGreatDoorPa09
import Derived.Test.YtaoeipehpakngaaGreatDoorPa44
import Derived.Test.YtaoeipehpakngaaGreatDoorPa24
import Derived.Test.YtaoeipehpakngaaGreatDoorPa11
import Derived.Test.YtaoeipehpakngaaGreatDoorPa12
import Derived.Test.YtaoeipehpakngaaGreatDoorPa06
import Derived.Test.YtaoeipehpakngaaGreatDoorPa04
import Derived.Test.YtaoeipehpakngaaGreatDoorPa08
import Derived.Test.YtaoeipehpakngaaGreatDoorPa01
import Derived.Test.YtaoeipehpakngaaGreatDoorPa07
namespace Go.Proofs.YtaoeipehpakngaaGreatDoor
set_option maxRecDepth 20000
open Go.RowKit
namespace Fi
open Se (Seg Sg Gb Lt Ok Bm)
open Sc (Sch MayS tr tr_yes tr_no)
open Sx (five)
open Wd (Cr)
section
variable (A : Option Addr) (n c : Nat) (s : Sch) (OA : Option Addr) (on oc : Nat) (CA : Option Addr) (cn cc : Nat) (os : List Cr) (x : Seg) (w : World) (hS : Wd.Cs w A n c s.cols) (hX : Sg w OA on oc CA cn cc os x) (hlt : Lt os) (hn : n ≤ 1000000) (hcn : cn ≤ 100000) (hon : on ≤ 1000000)
include hS hX hlt hn hcn hon
set_option maxHeartbeats 4000000 in
theorem refEncode_no (hok : ¬ Ok s x) :
    Calls Tryz.prog 10 #[.agg #[.slice A n c, .int .i64 s.key, .int .i64 s.cmp, .int .i64 s.del, .int .i64 s.sort], .agg #[.int .i64 x.part, .int .i64 x.id, .int .i64 x.st, .int .i64 x.en, .slice OA on oc, .slice CA cn cc]] w fun e w' => e = .returned (.tuple #[.slice none 0 0, .int .i64 1]) ∧ Below w.heap.size w w' := by
  have h1 := boxes w A n c s OA on oc CA cn cc x
  obtain ⟨w1, hw1⟩ : ∃ w1, w1 = (w.alloc (.cells #[.slice A n c, .int .i64 s.key, .int .i64 s.cmp, .int .i64 s.del, .int .i64 s.sort] 24)).alloc (.cells #[.int .i64 x.part, .int .i64 x.id, .int .i64 x.st, .int .i64 x.en, .slice OA on oc, .slice CA cn cc] 28) := ⟨_, rfl⟩
  rw [← hw1] at h1
  have C1 := Lib.hid (Sx.refMayS_any A n c s w1 (hS.below h1.b) hn)
  obtain ⟨v1, hv1⟩ : ∃ v1, v1 = tr (MayS s) := ⟨_, rfl⟩
  rw [← hv1] at C1
  have Hv1 := Lib.hid hv1
  obtain ⟨c0, c1, c2, c3, c4⟩ := five h1.s
  have H1 := Lib.hid h1
  have Hw1 := Lib.hid hw1
  have HS := Lib.hid hS
  have HX := Lib.hid hX
  have Hlt := Lib.hid hlt
  have Hok := Lib.hid hok
  have Hcn := Lib.hid hX.num
  have Hco := Lib.hid hX.cols.len
  clear hw1 h1 hS hX hlt hok hv1
  go_enter Tryz.func10, Tryz.ntmps10
  go_upto_region 1 with fail
  rw [← Hw1.out]
  go_wp2_with fail
  refine C1.out.mono ?_
  rintro e w2 ⟨rfl, hB2⟩
  have H2 := Lib.hid (H1.out.below hB2)
  have C2 := Se.refMay_any A n c s OA on oc CA cn cc os x w2 (HS.out.below H2.out.b) (HX.out.below H2.out.b) Hlt.out hn (by omega) hon
  rw [tr_no Hok.out] at C2
  have C2 := Lib.hid C2
  clear hB2 C1 c0 c1 c2 c3 c4
  obtain ⟨c0, c1, c2, c3, c4⟩ := five H2.out.s
  obtain ⟨d0, d1, d2, d3, d4, d5⟩ := Gb.six H2.out.x
  go_wp2_with fail
  refine C2.out.mono ?_
  rintro e w3 ⟨rfl, hB3⟩
  have H3 := Lib.hid (H2.out.below hB3)
  clear hB3 C2 c0 c1 c2 c3 c4 d0 d1 d2 d3 d4 d5
  cases v1
  case false =>
    go_wp2_with fail
    go_ret2
    exact ⟨rfl, H3.out.b⟩
  go_wp2_with fail
  go_ret2
  exact ⟨rfl, H3.out.b⟩
set_option maxRecDepth 100000 in
set_option maxHeartbeats 16000000 in
theorem refEncode_yes (hok : Ok s x) (hG : Good x) :
    Calls Tryz.prog 10 #[.agg #[.slice A n c, .int .i64 s.key, .int .i64 s.cmp, .int .i64 s.del, .int .i64 s.sort], .agg #[.int .i64 x.part, .int .i64 x.id, .int .i64 x.st, .int .i64 x.en, .slice OA on oc, .slice CA cn cc]] w (Wd.Out2 w .u8 (fileB x) 0) := by
  obtain ⟨i0, hi, hz0, hz1, hz2⟩ := info_parts Cx.info_y
  have HG := Lib.hid hG
  clear hG
  have h1 := boxes w A n c s OA on oc CA cn cc x
  obtain ⟨w1, hw1⟩ : ∃ w1, w1 = (w.alloc (.cells #[.slice A n c, .int .i64 s.key, .int .i64 s.cmp, .int .i64 s.del, .int .i64 s.sort] 24)).alloc (.cells #[.int .i64 x.part, .int .i64 x.id, .int .i64 x.st, .int .i64 x.en, .slice OA on oc, .slice CA cn cc] 28) := ⟨_, rfl⟩
  rw [← hw1] at h1
  have C1 := Lib.hid (Sx.refMayS_any A n c s w1 (hS.below h1.b) hn)
  obtain ⟨v1, hv1⟩ : ∃ v1, v1 = tr (MayS s) := ⟨_, rfl⟩
  rw [← hv1] at C1
  have Hv1 := Lib.hid hv1
  obtain ⟨c0, c1, c2, c3, c4⟩ := five h1.s
  have H1 := Lib.hid h1
  have Hw1 := Lib.hid hw1
  have HS := Lib.hid hS
  have HX := Lib.hid hX
  have Hlt := Lib.hid hlt
  have Hok := Lib.hid hok
  have Hcn := Lib.hid hX.num
  have Hco := Lib.hid hX.cols.len
  clear hw1 h1 hS hX hlt hok hv1
  go_enter Tryz.func10, Tryz.ntmps10
  go_upto_region 1 with fail
  rw [← Hw1.out]
  go_wp2_with fail
  refine C1.out.mono ?_
  rintro e w2 ⟨rfl, hB2⟩
  have H2 := Lib.hid (H1.out.below hB2)
  have C2 := Se.refMay_any A n c s OA on oc CA cn cc os x w2 (HS.out.below H2.out.b) (HX.out.below H2.out.b) Hlt.out hn (by omega) hon
  rw [tr_yes Hok.out] at C2
  have C2 := Lib.hid C2
  clear hB2 C1 c0 c1 c2 c3 c4
  obtain ⟨c0, c1, c2, c3, c4⟩ := five H2.out.s
  obtain ⟨d0, d1, d2, d3, d4, d5⟩ := Gb.six H2.out.x
  go_wp2_with fail
  refine C2.out.mono ?_
  rintro e w3 ⟨rfl, hB3⟩
  have H3 := Lib.hid (H2.out.below hB3)
  clear hB3 C2 c0 c1 c2 c3 c4 d0 d1 d2 d3 d4 d5
  have ht : v1 = true := by rw [Hv1.out]; exact tr_yes Hok.out.fit.1
  subst ht
  have Hin := Lib.hid (hns_in HG.out.nice.head (by rw [← Hcn.out]; omega))
  have Cl := Lib.hid fun (z : Int) (W : World) (h : 0 ≤ z ∧ z ≤ 9223372036854775807) => Nc.refPutLen_own z W h.1 h.2
  obtain ⟨d0, d1, d2, d3, d4, d5⟩ := Gb.six H3.out.x
  go_wp2_with fail
  refine (Cl.out x.part _ (Hin.out 0 (by omega))).mono ?_
  rintro e w4 ⟨v4, rfl, hO4, hB4⟩
  have O4 : w4.ownsRow w3.heap.size 5 1 v4 (hdk x 1).length ((hdk x 1).map (Value.int .u8)) := by
    rw [show hdk x 1 = Nm.vd x.part by simp [hdk, hns]]
    exact hO4
  have HB4 := Lib.hid hB4
  clear hO4 hB4 d0 d1 d2 d3 d4 d5
  obtain ⟨d0, d1, d2, d3, d4, d5⟩ := Gb.six (H3.out.below HB4.out).x
  have l1 := hdk_len x 1 (by omega)
  have e1 : hdk x 1 ++ Nm.vd (x.id) = hdk x 2 := by
    rw [hdk_next x 1 (by omega)]
    rfl
  have z1 := (Nm.vd_len (x.id)).2
  go_wp2_with fail
  refine (Cl.out (x.id) _ (Hin.out 1 (by omega))).mono ?_
  rintro e w5 ⟨v1, rfl, hO1, hB1⟩
  have P1 := Wd.own_below O4 hB1
  obtain ⟨A1, n1, c1, rfl, hS1⟩ := Wd.Sl.of_own hO1
  have E1 := Lib.hid e1
  have s1 : w3.heap.size ≤ w5.heap.size := Nat.le_trans HB4.out.size hB1.size
  obtain ⟨bs1, hbs1⟩ : ∃ bs, bs = hdk x 1 := ⟨_, rfl⟩
  obtain ⟨ds1, hds1⟩ : ∃ ds, ds = Nm.vd (x.id) := ⟨_, rfl⟩
  rw [← hbs1] at P1 E1 l1
  rw [← hds1] at hS1 E1 z1
  have N1 := Lib.hid hS1.len
  have L1 := Lib.hid (And.intro l1 z1)
  have HB4' := Lib.hid (HB4.out.trans (hB1.mono HB4.out.size))
  clear O4 hO1 hB1 hbs1 hds1 e1 d0 d1 d2 d3 d4 d5 l1 z1
  go_wp2_with (at_builtin; refine Wd.wpList_app _ rfl (.tmp 33) (.tmp 36) 32 rfl w3.heap.size 5 i0 _ .u8 1 Tryz.underlying32 hi hz0 hz1 hz2 rfl _ bs1 rfl P1 w5.heap.size A1 n1 c1 ds1 rfl N1.out hS1.nil hS1.rd (by have := L1.out; omega) (by have := L1.out; unfold maxLen; omega) s1 ?_; intro v1' w6 O6 g1; have HB6 := Lib.hid (HB4'.out.grown g1 s1 fun g hg => (P1.lt g hg).1); rw [E1.out] at O6; clear P1 g1 s1 hS1; obtain ⟨d0, d1, d2, d3, d4, d5⟩ := Gb.six (H3.out.below HB6.out).x)
  have l2 := hdk_len x 2 (by omega)
  have e2 : hdk x 2 ++ Nm.vd (x.st) = hdk x 3 := by
    rw [hdk_next x 2 (by omega)]
    rfl
  have z2 := (Nm.vd_len (x.st)).2
  refine (Cl.out (x.st) _ (Hin.out 2 (by omega))).mono ?_
  rintro e w7 ⟨v2, rfl, hO2, hB2⟩
  have P2 := Wd.own_below O6 hB2
  obtain ⟨A2, n2, c2, rfl, hS2⟩ := Wd.Sl.of_own hO2
  have E2 := Lib.hid e2
  have s2 : w3.heap.size ≤ w7.heap.size := Nat.le_trans HB6.out.size hB2.size
  obtain ⟨bs2, hbs2⟩ : ∃ bs, bs = hdk x 2 := ⟨_, rfl⟩
  obtain ⟨ds2, hds2⟩ : ∃ ds, ds = Nm.vd (x.st) := ⟨_, rfl⟩
  rw [← hbs2] at P2 E2 l2
  rw [← hds2] at hS2 E2 z2
  have N2 := Lib.hid hS2.len
  have L2 := Lib.hid (And.intro l2 z2)
  have HB6' := Lib.hid (HB6.out.trans (hB2.mono HB6.out.size))
  clear O6 hO2 hB2 hbs2 hds2 e2 d0 d1 d2 d3 d4 d5 l2 z2
  go_wp2_with (at_builtin; refine Wd.wpList_app _ rfl (.tmp 38) (.tmp 41) 32 rfl w3.heap.size 5 i0 _ .u8 1 Tryz.underlying32 hi hz0 hz1 hz2 rfl _ bs2 rfl P2 w7.heap.size A2 n2 c2 ds2 rfl N2.out hS2.nil hS2.rd (by have := L2.out; omega) (by have := L2.out; unfold maxLen; omega) s2 ?_; intro v2' w8 O8 g2; have HB8 := Lib.hid (HB6'.out.grown g2 s2 fun g hg => (P2.lt g hg).1); rw [E2.out] at O8; clear P2 g2 s2 hS2; obtain ⟨d0, d1, d2, d3, d4, d5⟩ := Gb.six (H3.out.below HB8.out).x)
  have l3 := hdk_len x 3 (by omega)
  have e3 : hdk x 3 ++ Nm.vd (x.en) = hdk x 4 := by
    rw [hdk_next x 3 (by omega)]
    rfl
  have z3 := (Nm.vd_len (x.en)).2
  refine (Cl.out (x.en) _ (Hin.out 3 (by omega))).mono ?_
  rintro e w9 ⟨v3, rfl, hO3, hB3⟩
  have P3 := Wd.own_below O8 hB3
  obtain ⟨A3, n3, c3, rfl, hS3⟩ := Wd.Sl.of_own hO3
  have E3 := Lib.hid e3
  have s3 : w3.heap.size ≤ w9.heap.size := Nat.le_trans HB8.out.size hB3.size
  obtain ⟨bs3, hbs3⟩ : ∃ bs, bs = hdk x 3 := ⟨_, rfl⟩
  obtain ⟨ds3, hds3⟩ : ∃ ds, ds = Nm.vd (x.en) := ⟨_, rfl⟩
  rw [← hbs3] at P3 E3 l3
  rw [← hds3] at hS3 E3 z3
  have N3 := Lib.hid hS3.len
  have L3 := Lib.hid (And.intro l3 z3)
  have HB8' := Lib.hid (HB8.out.trans (hB3.mono HB8.out.size))
  clear O8 hO3 hB3 hbs3 hds3 e3 d0 d1 d2 d3 d4 d5 l3 z3
  go_wp2_with (at_builtin; refine Wd.wpList_app _ rfl (.tmp 43) (.tmp 46) 32 rfl w3.heap.size 5 i0 _ .u8 1 Tryz.underlying32 hi hz0 hz1 hz2 rfl _ bs3 rfl P3 w9.heap.size A3 n3 c3 ds3 rfl N3.out hS3.nil hS3.rd (by have := L3.out; omega) (by have := L3.out; unfold maxLen; omega) s3 ?_; intro v3' w10 O10 g3; have HB10 := Lib.hid (HB8'.out.grown g3 s3 fun g hg => (P3.lt g hg).1); rw [E3.out] at O10; clear P3 g3 s3 hS3; obtain ⟨d0, d1, d2, d3, d4, d5⟩ := Gb.six (H3.out.below HB10.out).x)
  have l4 := hdk_len x 4 (by omega)
  have e4 : hdk x 4 ++ Nm.vd ((cn : Int)) = hdk x 5 := by
    rw [hdk_next x 4 (by omega), Hcn.out]
    rfl
  have z4 := (Nm.vd_len ((cn : Int))).2
  refine (Cl.out ((cn : Int)) _ (by omega)).mono ?_
  rintro e w11 ⟨v4, rfl, hO4, hB4⟩
  have P4 := Wd.own_below O10 hB4
  obtain ⟨A4, n4, c4, rfl, hS4⟩ := Wd.Sl.of_own hO4
  have E4 := Lib.hid e4
  have s4 : w3.heap.size ≤ w11.heap.size := Nat.le_trans HB10.out.size hB4.size
  obtain ⟨bs4, hbs4⟩ : ∃ bs, bs = hdk x 4 := ⟨_, rfl⟩
  obtain ⟨ds4, hds4⟩ : ∃ ds, ds = Nm.vd ((cn : Int)) := ⟨_, rfl⟩
  rw [← hbs4] at P4 E4 l4
  rw [← hds4] at hS4 E4 z4
  have N4 := Lib.hid hS4.len
  have L4 := Lib.hid (And.intro l4 z4)
  have HB10' := Lib.hid (HB10.out.trans (hB4.mono HB10.out.size))
  clear O10 hO4 hB4 hbs4 hds4 e4 d0 d1 d2 d3 d4 d5 l4 z4
  go_wp2_with (at_builtin; refine Wd.wpList_app _ rfl (.tmp 48) (.tmp 52) 32 rfl w3.heap.size 5 i0 _ .u8 1 Tryz.underlying32 hi hz0 hz1 hz2 rfl _ bs4 rfl P4 w11.heap.size A4 n4 c4 ds4 rfl N4.out hS4.nil hS4.rd (by have := L4.out; omega) (by have := L4.out; unfold maxLen; omega) s4 ?_; intro v4' w12 O12 g4; have HB12 := Lib.hid (HB10'.out.grown g4 s4 fun g hg => (P4.lt g hg).1); rw [E4.out] at O12; clear P4 g4 s4 hS4; obtain ⟨d0, d1, d2, d3, d4, d5⟩ := Gb.six (H3.out.below HB12.out).x)
  obtain ⟨HA, hl, hc, rfl, hSh⟩ := Wd.Sl.of_own O12
  rw [hdk_all] at hSh
  have HSh := Lib.hid hSh
  have Ce := Lib.hid (Rc.refEncode_ok OA on oc x.offs w12 (HX.out.below (H3.out.below HB12.out).b).offs (by have := HX.out.offs.len; have := HG.out.nice.len; omega) HG.out.nice.fit)
  clear O12 hSh
  refine Ce.out.mono ?_
  rintro e w13 ⟨A2, n2, c2, rfl, hS2, hB13⟩
  have B13 := Lib.hid (HB12.out.trans (hB13.mono HB12.out.size))
  have HS2 := Lib.hid hS2
  have HSh2 := Lib.hid (HSh.out.below hB13)
  clear hS2 hB13 Ce d0 d1 d2 d3 d4 d5
  have al := (Below.refl w13.heap.size w13).alloc (Nat.le_refl _) (.cells #[.slice HA hl hc, .slice A2 n2 c2] 32)
  have o4 := Wd.OwB.lit w13 w3.heap.size [.slice HA hl hc, .slice A2 n2 c2] B13.out.size (by simp [maxLen])
  obtain ⟨w14, hw14⟩ : ∃ w14, w14 = w13.alloc (.cells #[.slice HA hl hc, .slice A2 n2 c2] 32) := ⟨_, rfl⟩
  have o4 : Wd.OwB w14 w3.heap.size (.slice (some ⟨w13.heap.size, 0, none⟩) 2 2) [.slice HA hl hc, .slice A2 n2 c2] := by rw [hw14]; exact o4
  rw [← hw14] at al
  have O14 := Lib.hid o4
  have G14 := Lib.hid (show Wd.Gs w14 [.slice HA hl hc, .slice A2 n2 c2] ((pays x).take (2 + 0)) from Wd.Gs.two (HSh2.out.below al) (HS2.out.below al))
  have B14 := Lib.hid (B13.out.trans (al.mono B13.out.size))
  have Hw14 := Lib.hid hw14
  clear al o4 hw14
  go_upto_region 12 with fail
  rw [← Hw14.out]
  go_wp2_with fail
  go_loopw [11, 12] (fun v i wr => ∃ k : Nat, i = .int .i64 k ∧ k ≤ cn ∧ ∃ A c us, v = .slice A (2 + k) c ∧ Hid (us.length = 2 + k) ∧ Hid (Wd.OwB wr w3.heap.size v us ∧ Wd.Gs wr us ((pays x).take (2 + k)) ∧ Below w3.heap.size w3 wr)) (fun _ i _ => cn - (intOf i).toNat)
  case atStart => exact ⟨0, rfl, Nat.zero_le _, _, _, _, rfl, Lib.hid rfl, Lib.hid ⟨O14.out, G14.out, B14.out⟩⟩
  case round =>
    obtain ⟨k, rfl, hk, A, c, us, rfl, hus, hI⟩ := hrel
    obtain ⟨-, -, -, -, -, d5⟩ := Gb.six (H3.out.below hI.out.2.2).x
    by_cases hltk : k < cn
    · have hkI : (k : Int) < (cn : Int) := by omega
      have hko : k < os.length := by rw [← Hco.out]; exact hltk
      obtain ⟨b, f, hA, _, c0, c1, c2, h1⟩ := (HX.out.cols.below (H3.out.below hI.out.2.2).b).cells hko rfl
      subst hA
      have hsz := Hlt.out k hko
      obtain ⟨hce, hcm⟩ := cr_at HX.out hko
      have hv := (HG.out.v1 _ hcm).1
      have hnx := pays_next x (k := k) (by rw [← Hcn.out]; exact hltk)
      rw [hce] at hnx
      obtain ⟨o, ho⟩ : ∃ o, o = os.getD k default := ⟨_, rfl⟩
      rw [← ho] at c0 c1 c2 h1 hsz hnx hv
      have Cv := Cx.refPut_any o.A o.n o.c o.B o.m o.d o.C wr h1 (by omega) hsz.2
      rw [Co.put_yes hv] at Cv
      have Cv := Lib.hid Cv
      have Hnx := Lib.hid hnx
      clear h1 hsz ho hko hce hcm hv hnx
      go_wp2_with fail
      refine Cv.out.mono ?_
      rintro e w5 ⟨A5, n5, c5, rfl, hS5, hB5⟩
      have hB6 := hB5.alloc hB5.size (.cells #[.slice A5 n5 c5] 32)
      have hown := hI.out.1.below hB6
      have hgs := hI.out.2.1.below hB6
      have h5 := Wd.Gs.one_ (hS5.below ((Below.refl w5.heap.size w5).alloc (Nat.le_refl _) (.cells #[.slice A5 n5 c5] 32)))
      have hnew := (Wd.Bx.new w5 32 #[.slice A5 n5 c5]).cell 0
      have hbel := hI.out.2.2.trans (hB6.mono hI.out.2.2.size)
      have HH := Lib.hid (And.intro hgs (And.intro h5 hbel))
      have hbs := hbel.size
      have hul := hus.out
      clear hB5 hB6 hI hgs h5 hbel hS5 Cv c0 c1 c2 d5
      go_wp2_with (at_builtin; refine Wd.wpList_appB _ rfl (.tmp 79) (.tmp 81) rfl w3.heap.size (.slice A (2 + k) c) us rfl hown ⟨w5.heap.size, 0, none⟩ (.slice A5 n5 c5) rfl hnew rfl (by omega) hbs ?_; intro A7 c7 w7 hown7 hg7)
      have HI7 := Lib.hid (show Wd.OwB w7 w3.heap.size (.slice A7 (2 + (k + 1)) c7) (us ++ [.slice A5 n5 c5]) ∧ Wd.Gs w7 (us ++ [.slice A5 n5 c5]) ((pays x).take (2 + (k + 1))) ∧ Below w3.heap.size w3 w7 from ⟨by rw [show 2 + (k + 1) = us.length + 1 by omega]; exact hown7, by
        rw [Hnx.out]
        exact (HH.out.1.app HH.out.2.1).grown hown HH.out.1 hg7, HH.out.2.2.grown hg7 hbs fun g hg => (hown.block hg).1⟩)
      clear hown hown7 hg7 hnew HH hul
      exact ⟨⟨k + 1, by go_num, by omega, A7, c7, _, rfl, Lib.hid (by rw [List.length_append, hus.out]; rfl), HI7⟩, by simp [intOf]; omega⟩
    · have hkI : ¬ (k : Int) < (cn : Int) := by omega
      obtain rfl : k = cn := by omega
      have hP := hI.out.1.ss hI.out.2.1
      rw [List.take_of_length_le (by rw [pays_len, ← Hcn.out]; omega)] at hP
      have HP := Lib.hid hP
      have B5 := Lib.hid (H3.out.below hI.out.2.2).b
      obtain ⟨N, hN⟩ : ∃ N, N = 2 + k := ⟨_, rfl⟩
      rw [← hN] at HP ⊢
      have hN1 : N ≤ 200000 := by omega
      have hpcap := HP.out.cap
      have hpmax := HP.out.max
      unfold maxLen at hpmax
      have Hpl := Lib.hid HP.out.len
      clear hP hI hus hN
      go_wp2_with fail
      clear d5
      obtain ⟨w5, rfl⟩ : ∃ w5 : World, w5 = wr := ⟨_, rfl⟩
      go_loopw [15, 16] (fun v i wr => ∃ (k : Nat) (bs : List Int), i = .int .i64 k ∧ k ≤ N ∧ Hid (bs = Fr.cat ((pays x).take k)) ∧ wr.ownsRow w5.heap.size 5 1 v bs.length (bs.map (Value.int .u8)) ∧ Below w5.heap.size w5 wr) (fun _ i _ => N - (intOf i).toNat)
      case atStart => exact ⟨0, [], rfl, Nat.zero_le _, Lib.hid rfl, World.ownsRow_nil _ _ _ _, Below.refl _ _⟩
      case round =>
        obtain ⟨k, bs, rfl, hk, hbs, hown, hB⟩ := hrel
        by_cases hlt : k < N
        · have hkI : (k : Int) < (N : Int) := by omega
          have hkl : k < (pays x).length := by rw [← Hpl.out]; exact hlt
          obtain ⟨b, o, A1, n1, c1, rfl, hlt1, cc1, hS1⟩ := (HP.out.below hB).at_ k hkl
          have hmem : (pays x).getD k [] ∈ pays x := by
            rw [List.getD_eq_getElem?_getD, List.getElem?_eq_getElem hkl]
            exact List.getElem_mem _
          obtain ⟨hp3, hpB⟩ := HG.out.fine _ hmem
          have hn1 : n1 ≤ 65536 := by rw [hS1.len]; exact hp3
          have Cs := Lib.hid (Fc.refSeal_own A1 n1 c1 _ wr hS1 hpB hn1)
          have hnx := Fr.cat_take (pays x) k hkl
          have hl1 := cat_le (pays x) k
          have hl2 := cat_le (pays x) (k + 1)
          have hl3 : (Fr.cat (pays x)).length ≤ 930000 := HG.out.len
          rw [hnx, List.length_append] at hl2
          rw [← hbs.out] at hl1 hl2 hnx
          obtain ⟨fr, hfr⟩ : ∃ fr, fr = Fr.frame ((pays x).getD k []) := ⟨_, rfl⟩
          rw [← hfr] at Cs hnx hl2
          have Hnx := Lib.hid hnx
          have hsz := hB.size
          obtain ⟨L1, hL1⟩ : ∃ L, L = bs.length := ⟨_, rfl⟩
          obtain ⟨L2, hL2⟩ : ∃ L, L = fr.length := ⟨_, rfl⟩
          have hL : L1 + L2 ≤ 930000 := by omega
          have HL := Lib.hid (And.intro hL1 hL2)
          obtain ⟨wo, rfl⟩ : ∃ wo : World, wo = wr := ⟨_, rfl⟩
          clear hnx hl1 hl2 hl3 hfr hS1 hpB hp3 hmem hkl hL1 hL2
          go_wp2_with fail
          refine Cs.out.mono ?_
          rintro e w6 ⟨A3, n3, c3, rfl, hS3, hb3⟩
          have hown1 := Wd.own_below hown hb3
          have Hn3 := Lib.hid hS3.len
          have hz1' : w5.heap.size ≤ w6.heap.size := Nat.le_trans hsz hb3.size
          clear hown Cs
          go_wp2_with (at_builtin; refine Wd.wpList_app _ rfl (.tmp 100) (.tmp 101) 32 rfl w5.heap.size 5 i0 _ .u8 1 Tryz.underlying32 hi hz0 hz1 hz2 rfl _ bs rfl hown1 w6.heap.size A3 n3 c3 fr rfl Hn3.out hS3.nil hS3.rd (by rw [← HL.out.1, ← HL.out.2]; omega) (by rw [← HL.out.1, ← HL.out.2]; unfold maxLen; omega) hz1' ?_; intro v' w7 hown2 hg2)
          have hB2 : Below w5.heap.size w5 w7 := (hB.trans (hb3.mono hsz)).grown hg2 hz1' (fun g hg => (hown1.lt g hg).1)
          go_roundw
          case rel => exact ⟨k + 1, _, by go_num, by omega, Lib.hid Hnx.out.symm, hown2, hB2⟩
          case measure => simp [intOf]; omega
        · have hkI : ¬ (k : Int) < (N : Int) := by omega
          go_wp2_with fail
          go_ret2
          have e := hbs.out
          rw [List.take_of_length_le (by have := Hpl.out; omega)] at e
          rw [e] at hown
          obtain ⟨A9, n9, c9, rfl, h9⟩ := Wd.Sl.of_own hown
          exact ⟨A9, n9, c9, rfl, h9, B5.out.trans (hB.mono B5.out.size)⟩
end
end Fi
namespace Sx
open Sc (Col Sch tr tr_yes tr_no)
open Va (Vl May)
def FewS (s : Sch) : Prop := s.cols.length ≤ 12 ∧ ∀ i, i < s.cols.length → (s.cols.getD i default).name.size ≤ 100
set_option maxHeartbeats 1000000 in
theorem Few_any (A : Option Addr) (n c : Nat) (s : Sch) (w : World) (hS : Wd.Cs w A n c s.cols) :
    Calls Tryz.prog 7 #[.agg #[.slice A n c, .int .i64 s.key, .int .i64 s.cmp, .int .i64 s.del, .int .i64 s.sort]] w fun e w' => e = .returned (.bool (tr (FewS s))) ∧ Below w.heap.size w w' := by
  have hb0 := (Below.refl w.heap.size w).alloc (Nat.le_refl _) (.cells #[.slice A n c, .int .i64 s.key, .int .i64 s.cmp, .int .i64 s.del, .int .i64 s.sort] 24)
  have s0 : Sb (w.alloc (.cells #[.slice A n c, .int .i64 s.key, .int .i64 s.cmp, .int .i64 s.del, .int .i64 s.sort] 24)) w.heap.size A n c s.key s.cmp s.del s.sort := Wd.Bx.new w _ _
  have Hl := Lib.hid hS.len
  have HS := Lib.hid (hS.below hb0)
  have hcap := hS.cap
  obtain ⟨r, hr⟩ : ∃ r, r = tr (FewS s) := ⟨_, rfl⟩
  rw [← hr]
  have Hr := Lib.hid hr
  clear hr hS
  by_cases h12 : 12 < n
  · have e : r = false := by rw [Hr.out]; exact tr_no fun h => by have := h.1; have := Hl.out; omega
    subst e
    have q1 : (12 : Int) < (n : Int) := by omega
    clear h12
    go_enter Tryz.func7, Tryz.ntmps7
    go_wp2_with fail
    go_ret
    exact ⟨rfl, hb0⟩
  have q1 : ¬ (12 : Int) < (n : Int) := by omega
  go_enter Tryz.func7, Tryz.ntmps7
  go_wp2
  generalize w.alloc (.cells #[.slice A n c, .int .i64 s.key, .int .i64 s.cmp, .int .i64 s.del, .int .i64 s.sort] 24) = wa at *
  obtain ⟨p0, p1, p2, p3, p4⟩ := five s0
  go_loopw [3] (fun i wr => ∃ k : Nat, i = .int .i64 k ∧ k ≤ n ∧ Hid (∀ j, j < k → (s.cols.getD j default).name.size ≤ 100) ∧ wr = wa) (fun i _ => n - (intOf i).toNat)
  case atStart => exact ⟨0, rfl, Nat.zero_le _, Lib.hid (fun j hj => by omega), rfl⟩
  case round =>
    obtain ⟨k, rfl, hk, hf, rfl⟩ := hrel
    by_cases hlt : k < n
    · obtain ⟨b, o, hA, hbB, c0, c1, c2, _⟩ := HS.out.cells (j := k) (by rw [← Hl.out]; exact hlt) rfl
      subst hA
      obtain ⟨x, hx⟩ : ∃ x, x = (s.cols.getD k default).name := ⟨_, rfl⟩
      rw [← hx] at c0
      have Hx := Lib.hid hx
      clear hx c1 c2
      by_cases hz : 100 < x.size
      · have e : r = false := by rw [Hr.out]; exact tr_no fun h => by have := h.2 k (by rw [← Hl.out]; exact hlt); rw [← Hx.out] at this; omega
        have He := Lib.hid e
        have hzI : (100 : Int) < (x.size : Int) := by omega
        clear e
        go_wp2_with fail
        go_ret
        exact ⟨by rw [He.out]; rfl, hb0⟩
      · have hzI : ¬ (100 : Int) < (x.size : Int) := by omega
        go_wp2_with fail
        go_roundw
        case rel =>
          refine ⟨k + 1, by go_num, by omega, Lib.hid fun j hj => ?_, by first | rfl | trivial⟩
          by_cases hjk : j = k
          · rw [hjk, ← Hx.out]; omega
          · exact hf.out j (by omega)
        case measure => simp [intOf]; omega
    · have hkI : ¬ (k : Int) < n := by omega
      have e : r = true := by
        rw [Hr.out]
        exact tr_yes ⟨by have := Hl.out; omega, fun i hi => hf.out i (by have := Hl.out; omega)⟩
      have He := Lib.hid e
      clear e hf
      go_wp2_with fail
      go_ret
      exact ⟨by rw [He.out]; rfl, hb0⟩
end Sx
end Go.Proofs.YtaoeipehpakngaaGreatDoor
namespace Go.Proofs.YtaoeipehpakngaaGreatDoor
set_option maxRecDepth 20000
open Go.RowKit Go.ChangeShapes Go.WideShapes
namespace Wd
open Va (Vl)
section
variable {H : Type} {enc : TypeId × Value → H} {P : Program} {W : World} {r : Reach} {base0 base : Nat} {spare : Nat → Bool} {held : Bool}
theorem open_v1s {t : TypeId} {f0 f1 f2 f3 : Field} (T : VlT P t f0 f1 f2 f3) {fuel : Nat} {cs : List Value} {x : DataW H × List MemPlace} (hl : cs.length = 4) (h : DataW.trod enc P W base spare held fuel t cs = some x) :
    ∃ o : Vl, cs = vals o ∧ V1 o ∧ o.s.size ≤ maxLen := by
  obtain ⟨xs, k, hk, hxy, _, hxl, hf⟩ := DataW.trod_struct T.u h
  match xs, hxl, cs, hl with
  | [y0, y1, y2, y3], _, [v0, v1, v2, v3], _ =>
    have g0 := hf 0 f0 rfl
    have g1 := hf 1 f1 rfl
    have g2 := hf 2 f2 rfl
    have g3 := hf 3 f3 rfl
    simp [T.o0, T.o1, T.o2, T.o3, T.c0, T.c1, T.c2, T.c3] at g0 g1 g2 g3
    obtain ⟨a0, z0, _, w0⟩ := DataW.trod_int T.u0 g0
    obtain ⟨a1, z1, _, w1⟩ := DataW.trod_int T.u1 g1
    obtain ⟨s, z2, _, w2⟩ := DataW.trod_string T.u2 g2
    obtain ⟨b, z3, _⟩ := DataW.trod_bool T.u3 g3
    simp only [List.cons.injEq, and_true] at z0 z1 z2 z3
    subst z0 z1 z2 z3
    exact ⟨⟨a0, a1, s, b⟩, rfl, ⟨w0, w1⟩, w2⟩
theorem open_vsc {t e : TypeId} {f0 f1 f2 f3 : Field} (ht : P.underlying t = some (.slice e)) (T : VlT P e f0 f1 f2 f3) {fuel : Nat} {A : Option Addr} {n c : Nat} {x : DataW H × List MemPlace} (hf : DataW.trod enc P W base spare held fuel t [.slice A n c] = some x) :
    ∃ os, Vs W A n c os ∧ ∀ o ∈ os, o.s.size ≤ maxLen := by
  rcases Go.Deep.open_slice ht hf with ⟨hcs, _⟩ | ⟨a, len, cap, m, k, D, Pl, hcs, _, hl, hm, hmm, _, hx⟩
  · simp at hcs
    obtain ⟨rfl, rfl, rfl⟩ := hcs
    exact ⟨[], Vs.none_ _, fun o ho => by cases ho⟩
  · simp at hcs
    obtain ⟨rfl, rfl, rfl⟩ := hcs
    have hnm : n ≤ m := by rw [hmm]; split <;> omega
    rw [T.c] at hx
    obtain ⟨Y, hY⟩ := Go.Deep.choose_lt (α := Vl) (n := n) (p := fun i y => (∀ j v, (vals y)[j]? = some v → W.cell? (a.add (i * 4 + j)) = some v) ∧ V1 y ∧ y.s.size ≤ maxLen) (fun i hi => by
      obtain ⟨cs', h1, h2⟩ := hx i (by omega)
      obtain ⟨_, hlen, hcell⟩ := World.cells?_some h1
      obtain ⟨o, e1, h3⟩ := open_v1s T hlen h2
      refine ⟨o, fun j v hv => ?_, h3⟩
      have hj : j < 4 := by
        have := (List.getElem?_eq_some_iff.1 hv).1
        simpa [vals] using this
      have h4 := hcell j hj
      rw [Go.Deep.add_add, e1, hv] at h4
      exact h4)
    refine ⟨(List.range n).map Y, ⟨by simp, hl, hm, by simp, fun j hj => ?_⟩, fun o ho => ?_⟩
    · simp only [List.length_map, List.length_range] at hj
      have hg : ((List.range n).map Y).getD j default = Y j := by simp [List.getD, hj]
      obtain ⟨h1, h2⟩ := hY j hj
      obtain ⟨b, off, spot⟩ := a
      have hs : spot = none := by simpa [Addr.add] using World.cell?_spot ((hY 0 (by omega)).1 0 _ rfl)
      subst hs
      have h5 := h1 0 _ rfl
      rw [Addr.add_lit] at h5
      refine ⟨b, off, rfl, World.block_lt_of_cell? W ⟨b, off + (j * 4 + 0), none⟩ h5, fun i v hv => ?_, by rw [hg]; exact h2.1⟩
      rw [hg] at hv
      have := h1 i v hv
      rwa [Addr.add_lit] at this
    · obtain ⟨i, hi, rfl⟩ := List.mem_map.1 ho
      exact (hY i (List.mem_range.1 hi)).2.2
theorem open_sl1 {t e : TypeId} {k : IntKind} {A : Option Addr} {n c : Nat} {fuel : Nat} {x : DataW H × List MemPlace}
    (ht : P.underlying t = some (.slice e)) (he : P.underlying e = some (.int k)) (hc : P.cellsOf e = 1) (hf : DataW.trod enc P W base spare held fuel t [.slice A n c] = some x) :
    ∃ xs, Sl W k A n c xs ∧ Fits k xs := by
  rcases open_ints ht he hc hf with ⟨hcs, _⟩ | ⟨x, l, cc, zs, hcs, _, hl, hm, hz, _, hcell, hwz⟩
  · simp at hcs
    obtain ⟨rfl, rfl, rfl⟩ := hcs
    exact ⟨[], Sl.none_ _ _, fun x hx => by simp at hx⟩
  · simp at hcs
    obtain ⟨rfl, rfl, rfl⟩ := hcs
    have hlz : n ≤ zs.length := by rw [hz]; split <;> omega
    refine ⟨zs.take n, ⟨by simp [hlz], hl, hm, by simp, ?_⟩, fun y hy => hwz y (List.mem_of_mem_take hy)⟩
    refine Rd.take (fun j hj => ?_) n
    obtain ⟨b, o, rfl, h1⟩ := ints_at hcell (by omega)
    have h2 := h1 j hj
    exact ⟨b, o, rfl, World.block_lt_of_cell? W ⟨b, o + j, none⟩ h2, h2⟩
structure ClT (P : Program) (t : TypeId) (f0 f1 f2 : Field) (e y : TypeId) (g0 g1 g2 g3 : Field) : Prop where
  u : P.underlying t = some (.struct #[f0, f1, f2])
  c : P.cellsOf t = 3
  o0 : f0.offset = 0
  o1 : f1.offset = 1
  o2 : f2.offset = 2
  c0 : P.cellsOf f0.type = 1
  c1 : P.cellsOf f1.type = 1
  c2 : P.cellsOf f2.type = 1
  u0 : P.underlying f0.type = some (.int .i64)
  u1 : P.underlying f1.type = some (.slice e)
  u2 : P.underlying f2.type = some (.slice y)
  v : VlT P e g0 g1 g2 g3
  b : P.underlying y = some (.int .u8)
  bc : P.cellsOf y = 1
end
end Wd
end Go.Proofs.YtaoeipehpakngaaGreatDoor
namespace Go.Proofs.YtaoeipehpakngaaGreatDoor
set_option maxRecDepth 20000
namespace Wd
theorem clT : ∃ f0 f1 f2 e y g0 g1 g2 g3, Wd.ClT Tryz.prog 57 f0 f1 f2 e y g0 g1 g2 g3 := by
  obtain ⟨g0, g1, g2, g3, T⟩ := Wd.vlT
  exact ⟨_, _, _, _, _, g0, g1, g2, g3, ⟨Tryz.underlying57, by kernel_rfl, rfl, rfl, rfl, by kernel_rfl, by kernel_rfl, by kernel_rfl, Tryz.underlying3, Tryz.underlying48, Tryz.underlying32, T, Tryz.underlying5, by kernel_rfl⟩⟩
end Wd
end Go.Proofs.YtaoeipehpakngaaGreatDoor
namespace Go.Proofs.YtaoeipehpakngaaGreatDoor
set_option maxRecDepth 20000
open Go.RowKit Go.ChangeShapes Go.WideShapes
namespace Wd
open Va (Vl)
section
variable {H : Type} {enc : TypeId × Value → H} {P : Program} {W : World} {r : Reach} {base0 base : Nat} {spare : Nat → Bool} {held : Bool}
theorem open_cl1 {t : TypeId} {f0 f1 f2 : Field} {e y : TypeId} {g0 g1 g2 g3 : Field} (T : ClT P t f0 f1 f2 e y g0 g1 g2 g3) {fuel : Nat} {cs : List Value} {x : DataW H × List MemPlace} (hl : cs.length = 3) (h : DataW.trod enc P W base spare held fuel t cs = some x) :
    ∃ o : Cr, cs = o.vals ∧ Cr1 W o := by
  obtain ⟨xs, k, hk, hxy, _, hxl, hf⟩ := DataW.trod_struct T.u h
  match xs, hxl, cs, hl with
  | [y0, y1, y2], _, [v0, v1, v2], _ =>
    have q0 := hf 0 f0 rfl
    have q1 := hf 1 f1 rfl
    have q2 := hf 2 f2 rfl
    simp [T.o0, T.o1, T.o2, T.c0, T.c1, T.c2] at q0 q1 q2
    obtain ⟨a0, z0, _, w0⟩ := DataW.trod_int T.u0 q0
    obtain ⟨A, n, c, rfl⟩ := trod_slice_one T.u1 q1
    obtain ⟨B, m, d, rfl⟩ := trod_slice_one T.u2 q2
    obtain ⟨os, hv, hst⟩ := open_vsc T.u1 T.v q1
    obtain ⟨bs, hb, hfit⟩ := open_sl1 T.u2 T.b T.bc q2
    simp only [List.cons.injEq, and_true] at z0
    subst z0
    refine ⟨⟨A, n, c, B, m, d, ⟨a0, os, bs⟩⟩, rfl, ⟨hv, hb, fun x hx => ?_, (bounds_i64 w0).1, (bounds_i64 w0).2, hst⟩⟩
    have := hfit x hx
    simp [Lit.wf, IntKind.min, IntKind.max, IntKind.signed, IntKind.bits] at this
    exact ⟨by omega, by rw [show (2 : Int) ^ 8 = 256 by decide]; omega⟩
theorem open_cms1 {t e : TypeId} {f0 f1 f2 : Field} {e1 y : TypeId} {g0 g1 g2 g3 : Field} (ht : P.underlying t = some (.slice e)) (T : ClT P e f0 f1 f2 e1 y g0 g1 g2 g3) {fuel : Nat} {A : Option Addr} {n c : Nat} {x : DataW H × List MemPlace} (hf : DataW.trod enc P W base spare held fuel t [.slice A n c] = some x) :
    ∃ os, Cms W A n c os := by
  rcases Go.Deep.open_slice ht hf with ⟨hcs, _⟩ | ⟨a, len, cap, m, k, D, Pl, hcs, _, hl, hm, hmm, _, hx⟩
  · simp at hcs
    obtain ⟨rfl, rfl, rfl⟩ := hcs
    exact ⟨[], Cms.none_ _⟩
  · simp at hcs
    obtain ⟨rfl, rfl, rfl⟩ := hcs
    have hnm : n ≤ m := by rw [hmm]; split <;> omega
    rw [T.c] at hx
    obtain ⟨Y, hY⟩ := Go.Deep.choose_lt (α := Cr) (n := n) (p := fun i y => (∀ j v, y.vals[j]? = some v → W.cell? (a.add (i * 3 + j)) = some v) ∧ Cr1 W y) (fun i hi => by
      obtain ⟨cs', h1, h2⟩ := hx i (by omega)
      obtain ⟨_, hlen, hcell⟩ := World.cells?_some h1
      obtain ⟨o, e1, h3⟩ := open_cl1 T hlen h2
      refine ⟨o, fun j v hv => ?_, h3⟩
      have hj : j < 3 := by
        have := (List.getElem?_eq_some_iff.1 hv).1
        simpa [Cr.vals] using this
      have h4 := hcell j hj
      rw [Go.Deep.add_add, e1, hv] at h4
      exact h4)
    refine ⟨(List.range n).map Y, ⟨by simp, hl, hm, by simp, fun j hj => ?_⟩⟩
    simp only [List.length_map, List.length_range] at hj
    have hg : ((List.range n).map Y).getD j default = Y j := by simp [List.getD, hj]
    obtain ⟨h1, h2⟩ := hY j hj
    obtain ⟨b, off, spot⟩ := a
    have hs : spot = none := by simpa [Addr.add] using World.cell?_spot ((hY 0 (by omega)).1 0 _ rfl)
    subst hs
    have h5 := h1 0 _ rfl
    rw [Addr.add_lit] at h5
    refine ⟨b, off, rfl, World.block_lt_of_cell? W ⟨b, off + (j * 3 + 0), none⟩ h5, fun i v hv => ?_, by rw [hg]; exact h2⟩
    rw [hg] at hv
    have := h1 i v hv
    rwa [Addr.add_lit] at this
structure SgT (P : Program) (t : TypeId) (h0 h1 h2 h3 h4 h5 : Field) (i cl : TypeId) (f0 f1 f2 : Field) (e y : TypeId) (g0 g1 g2 g3 : Field) : Prop where
  u : P.underlying t = some (.struct #[h0, h1, h2, h3, h4, h5])
  c : P.cellsOf t = 6
  o0 : h0.offset = 0
  o1 : h1.offset = 1
  o2 : h2.offset = 2
  o3 : h3.offset = 3
  o4 : h4.offset = 4
  o5 : h5.offset = 5
  c0 : P.cellsOf h0.type = 1
  c1 : P.cellsOf h1.type = 1
  c2 : P.cellsOf h2.type = 1
  c3 : P.cellsOf h3.type = 1
  c4 : P.cellsOf h4.type = 1
  c5 : P.cellsOf h5.type = 1
  u0 : P.underlying h0.type = some (.int .i64)
  u1 : P.underlying h1.type = some (.int .i64)
  u2 : P.underlying h2.type = some (.int .i64)
  u3 : P.underlying h3.type = some (.int .i64)
  u4 : P.underlying h4.type = some (.slice i)
  u5 : P.underlying h5.type = some (.slice cl)
  ui : P.underlying i = some (.int .i64)
  ci : P.cellsOf i = 1
  v : ClT P cl f0 f1 f2 e y g0 g1 g2 g3
theorem open_seg {t : TypeId} {h0 h1 h2 h3 h4 h5 : Field} {i c : TypeId} {f0 f1 f2 : Field} {e y : TypeId} {g0 g1 g2 g3 : Field} (T : SgT P t h0 h1 h2 h3 h4 h5 i c f0 f1 f2 e y g0 g1 g2 g3) {v : Value} {d : DataW H} {ps : List MemPlace} (hok : Value.okWide P W r base0 t v) (h : DataW.Trod enc P W base spare held t v d ps) :
    ∃ OA on oc CA cn cc os, ∃ x : Se.Seg, v = .agg #[.int .i64 x.part, .int .i64 x.id, .int .i64 x.st, .int .i64 x.en, .slice OA on oc, .slice CA cn cc] ∧ Se.Sg W OA on oc CA cn cc os x := by
  obtain ⟨cs, rfl, hsz⟩ := okWide_struct T.u hok
  obtain ⟨fuel, h⟩ := h
  obtain ⟨xs, k, hk, hxy, _, hxl, hf⟩ := DataW.trod_struct T.u h
  have hl : cs.toList.length = 6 := by simpa [T.c] using hsz
  simp only [Value.cells] at hf
  obtain ⟨ls⟩ := cs
  simp only [] at hl hf
  match xs, hxl, ls, hl with
  | [y0, y1, y2, y3, y4, y5], _, [v0, v1, v2, v3, v4, v5], _ =>
    have q0 := hf 0 h0 rfl
    have q1 := hf 1 h1 rfl
    have q2 := hf 2 h2 rfl
    have q3 := hf 3 h3 rfl
    have q4 := hf 4 h4 rfl
    have q5 := hf 5 h5 rfl
    simp [T.o0, T.o1, T.o2, T.o3, T.o4, T.o5, T.c0, T.c1, T.c2, T.c3, T.c4, T.c5] at q0 q1 q2 q3 q4 q5
    obtain ⟨a0, z0, _, w0⟩ := DataW.trod_int T.u0 q0
    obtain ⟨a1, z1, _, w1⟩ := DataW.trod_int T.u1 q1
    obtain ⟨a2, z2, _, w2⟩ := DataW.trod_int T.u2 q2
    obtain ⟨a3, z3, _, w3⟩ := DataW.trod_int T.u3 q3
    obtain ⟨OA, on, oc, rfl⟩ := trod_slice_one T.u4 q4
    obtain ⟨CA, cn, cc, rfl⟩ := trod_slice_one T.u5 q5
    obtain ⟨offs, ho, hfit⟩ := open_sl1 T.u4 T.ui T.ci q4
    obtain ⟨os, hc⟩ := open_cms1 T.u5 T.v q5
    simp only [List.cons.injEq, and_true] at z0 z1 z2 z3
    subst z0 z1 z2 z3
    exact ⟨OA, on, oc, CA, cn, cc, os, ⟨a0, a1, a2, a3, offs, cols os⟩, rfl, ⟨ho, hc, rfl, hfit, w0, w1, w2, w3⟩⟩
end
theorem sgT : ∃ h0 h1 h2 h3 h4 h5 i c f0 f1 f2 e y g0 g1 g2 g3, Wd.SgT Tryz.prog 28 h0 h1 h2 h3 h4 h5 i c f0 f1 f2 e y g0 g1 g2 g3 := by
  obtain ⟨f0, f1, f2, e, y, g0, g1, g2, g3, T⟩ := Wd.clT
  exact ⟨_, _, _, _, _, _, _, _, f0, f1, f2, e, y, g0, g1, g2, g3, ⟨Tryz.underlying28, by kernel_rfl, rfl, rfl, rfl, rfl, rfl, rfl, by kernel_rfl, by kernel_rfl, by kernel_rfl, by kernel_rfl, by kernel_rfl, by kernel_rfl, Tryz.underlying3, Tryz.underlying3, Tryz.underlying3, Tryz.underlying3, Tryz.underlying25, Tryz.underlying26, Tryz.underlying3, by kernel_rfl, T⟩⟩
end Wd
end Go.Proofs.YtaoeipehpakngaaGreatDoor
