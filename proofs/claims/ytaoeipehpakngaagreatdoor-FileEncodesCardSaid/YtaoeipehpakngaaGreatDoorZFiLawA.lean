/- The walk of the statement FileEncodes of layer 13. -/
import Derived.Test.YtaoeipehpakngaaGreatDoorPa43
import Derived.Test.YtaoeipehpakngaaGreatDoorPa45
import Derived.Test.YtaoeipehpakngaaGreatDoorPa08
import Derived.Test.YtaoeipehpakngaaGreatDoorPa09
namespace Go.Proofs.YtaoeipehpakngaaGreatDoor
set_option maxRecDepth 20000
open Go.RowKit
namespace Lw
open Se (Seg Sg Gb Bm Ok LightG Lt)
open Fi
open Sc (Sch MayS tr tr_yes tr_no tr_iff)
open Sx (Sb five FewS)
open Wd (Cr)
set_option maxHeartbeats 16000000 in
theorem fileEncodes_walk (A : Option Addr) (n c : Nat) (s : Sch) (OA : Option Addr) (on oc : Nat) (CA : Option Addr) (cn cc : Nat) (os : List Cr) (x : Seg) (w : World) (hS : Wd.Cs w A n c s.cols) (_u : Wd.Sch1 s) (hX : Sg w OA on oc CA cn cc os x) :
    Calls Tryz.prog 3 #[.agg #[.slice A n c, .int .i64 s.key, .int .i64 s.cmp, .int .i64 s.del, .int .i64 s.sort], .agg #[.int .i64 x.part, .int .i64 x.id, .int .i64 x.st, .int .i64 x.en, .slice OA on oc, .slice CA cn cc]] w fun e w' => e = .returned (.bool true) ∧ Below w.heap.size w w' := by
  have h1 := boxes w A n c s OA on oc CA cn cc x
  obtain ⟨w1, hw1⟩ : ∃ w1, w1 = (w.alloc (.cells #[.slice A n c, .int .i64 s.key, .int .i64 s.cmp, .int .i64 s.del, .int .i64 s.sort] 24)).alloc (.cells #[.int .i64 x.part, .int .i64 x.id, .int .i64 x.st, .int .i64 x.en, .slice OA on oc, .slice CA cn cc] 28) := ⟨_, rfl⟩
  rw [← hw1] at h1
  have H1 := Lib.hid h1
  have Hw1 := Lib.hid hw1
  have HS := Lib.hid hS
  have HX := Lib.hid hX
  have Hn := Lib.hid hS.len
  have Hcn := Lib.hid hX.num
  have Hon := Lib.hid hX.offs.len
  have Ca := Lib.hid (awake_any w1)
  clear hw1 h1 hS hX
  go_enter Tryz.func3, Tryz.ntmps3
  go_upto_region 1 with fail
  rw [← Hw1.out]
  go_wp2_with fail
  refine Ca.out.mono ?_
  rintro e w2 ⟨rfl, hB2⟩
  have H2 := Lib.hid (H1.out.below hB2)
  have Cf := Lib.hid (Sx.Few_any A n c s w2 (HS.out.below H2.out.b))
  obtain ⟨v1, hv1⟩ : ∃ v1, v1 = tr (FewS s) := ⟨_, rfl⟩
  rw [← hv1] at Cf
  have Hv1 := Lib.hid hv1
  obtain ⟨c0, c1, c2, c3, c4⟩ := five H2.out.s
  clear hB2 Ca hv1
  go_wp2_with fail
  refine Cf.out.mono ?_
  rintro e w3 ⟨rfl, hB3⟩
  have H3 := Lib.hid (H2.out.below hB3)
  have Cl := Lib.hid (Se.refLight_any OA on oc CA cn cc os x w3 (HX.out.below H3.out.b))
  obtain ⟨v2, hv2⟩ : ∃ v2, v2 = tr (LightG x) := ⟨_, rfl⟩
  rw [← hv2] at Cl
  have Hv2 := Lib.hid hv2
  clear hB3 c0 c1 c2 c3 c4 Cf hv2
  obtain ⟨d0, d1, d2, d3, d4, d5⟩ := Gb.six H3.out.x
  go_wp2_with fail
  refine Cl.out.mono ?_
  rintro e w4 ⟨rfl, hB4⟩
  have H4 := Lib.hid (H3.out.below hB4)
  clear hB4 d0 d1 d2 d3 d4 d5 Cl
  cases v1
  case false =>
    go_wp2_with fail
    go_ret
    exact ⟨rfl, H4.out.b⟩
  cases v2
  case false =>
    go_wp2_with fail
    go_ret
    exact ⟨rfl, H4.out.b⟩
  have hfew := (tr_iff (p := FewS s)).1 Hv1.out.symm
  have hli := (tr_iff (p := LightG x)).1 Hv2.out.symm
  have hn : n ≤ 12 := by have := hfew.1; have := Hn.out; omega
  have hcn : cn ≤ 12 := by have := hli.2.1; have := Hcn.out; omega
  have hon : on ≤ 200 := by have := hli.1; have := Hon.out; omega
  have Hlt := Lib.hid (lt_light HX.out hli)
  have Hli := Lib.hid hli
  obtain ⟨c0, c1, c2, c3, c4⟩ := five H4.out.s
  obtain ⟨d0, d1, d2, d3, d4, d5⟩ := Gb.six H4.out.x
  clear hfew hli Hv1 Hv2
  by_cases hok : Ok s x
  case neg =>
    have C1 := Lib.hid (Encode_no A n c s OA on oc CA cn cc os x w4 (HS.out.below H4.out.b) (HX.out.below H4.out.b) Hlt.out (by omega) (by omega) (by omega) hok)
    have Hok := Lib.hid hok
    clear hok
    go_wp2_with fail
    refine C1.out.mono ?_
    rintro e w5 ⟨rfl, hB5⟩
    have H5 := Lib.hid (H4.out.below hB5)
    have C2 := Lib.hid (refEncode_no A n c s OA on oc CA cn cc os x w5 (HS.out.below H5.out.b) (HX.out.below H5.out.b) Hlt.out (by omega) (by omega) (by omega) Hok.out)
    clear hB5 C1 c0 c1 c2 c3 c4 d0 d1 d2 d3 d4 d5
    obtain ⟨c0, c1, c2, c3, c4⟩ := five H5.out.s
    obtain ⟨d0, d1, d2, d3, d4, d5⟩ := Gb.six H5.out.x
    go_wp2_with fail
    refine C2.out.mono ?_
    rintro e w6 ⟨rfl, hB6⟩
    have H6 := Lib.hid (H5.out.below hB6)
    have C3 := Lib.hid (Nc.same_yes none none 0 0 0 0 [] [] w6 (Wd.Sl.none_ _ _) (Wd.Sl.none_ _ _) rfl)
    clear hB6 C2 c0 c1 c2 c3 c4 d0 d1 d2 d3 d4 d5
    go_wp2_with fail
    refine C3.out.mono ?_
    rintro e w7 ⟨rfl, hB7⟩
    have H7 := Lib.hid (H6.out.below hB7)
    clear hB7 C3
    go_wp2_with fail
    go_ret
    exact ⟨rfl, H7.out.b⟩
  have HG := Lib.hid (light_good HX.out hok Hli.out)
  have C1 := Lib.hid (Encode_yes A n c s OA on oc CA cn cc os x w4 (HS.out.below H4.out.b) (HX.out.below H4.out.b) Hlt.out (by omega) (by omega) (by omega) hok HG.out)
  have Hok := Lib.hid hok
  clear hok
  go_wp2_with fail
  refine C1.out.mono ?_
  rintro e w5 ⟨B5, n5, c5, rfl, hS5, hB5⟩
  have H5 := Lib.hid (H4.out.below hB5)
  have C2 := Lib.hid (refEncode_yes A n c s OA on oc CA cn cc os x w5 (HS.out.below H5.out.b) (HX.out.below H5.out.b) Hlt.out (by omega) (by omega) (by omega) Hok.out HG.out)
  have HS5 := Lib.hid hS5
  clear hS5 hB5 C1 c0 c1 c2 c3 c4 d0 d1 d2 d3 d4 d5
  obtain ⟨c0, c1, c2, c3, c4⟩ := five H5.out.s
  obtain ⟨d0, d1, d2, d3, d4, d5⟩ := Gb.six H5.out.x
  go_wp2_with fail
  refine C2.out.mono ?_
  rintro e w6 ⟨B6, n6, c6, rfl, hS6, hB6⟩
  have H6 := Lib.hid (H5.out.below hB6)
  have C3 := Lib.hid (Nc.same_yes B5 B6 n5 n6 c5 c6 (fileB x) (fileB x) w6 (HS5.out.below hB6) hS6 rfl)
  clear hS6 hB6 C2 c0 c1 c2 c3 c4 d0 d1 d2 d3 d4 d5
  go_wp2_with fail
  refine C3.out.mono ?_
  rintro e w7 ⟨rfl, hB7⟩
  have H7 := Lib.hid (H6.out.below hB7)
  clear hB7 C3
  go_wp2_with fail
  go_ret
  exact ⟨rfl, H7.out.b⟩
end Lw
end Go.Proofs.YtaoeipehpakngaaGreatDoor
