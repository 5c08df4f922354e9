/- The walk of the statement FileSize of layer 13. -/
import Derived.Test.YtaoeipehpakngaaGreatDoorPb43
import Derived.Test.YtaoeipehpakngaaGreatDoorPb08
import Derived.Test.YtaoeipehpakngaaGreatDoorPb09
namespace Go.Proofs.YtaoeipehpakngaaGreatDoor
set_option maxRecDepth 20000
open Go.RowKit
namespace Lw
open Se (Seg Sg Gb Bm Ok LightG Lt)
open Fi
open Sc (Sch MayS tr tr_yes tr_no tr_iff)
open Sx (Sb five FewS)
open Wd (Cr)
structure Bt (w w' : World) (A : Option Addr) (n c : Nat) (s : Sch) (OA : Option Addr) (on oc : Nat) (CA : Option Addr) (cn cc : Nat) (x : Seg) (PA : Option Addr) (pn pc : Nat) (DA : Option Addr) (dn dc : Nat) (y : Seg) : Prop where
  m : Bm w w' A n c s OA on oc CA cn cc x
  y : Gb w' (w.heap.size + 1 + 1) y.part y.id y.st y.en PA pn pc DA dn dc
theorem Bt.below {w w1 w2 : World} {A : Option Addr} {n c : Nat} {s : Sch} {OA : Option Addr} {on oc : Nat} {CA : Option Addr} {cn cc : Nat} {x : Seg} {PA : Option Addr} {pn pc : Nat} {DA : Option Addr} {dn dc : Nat} {y : Seg} (h : Bt w w1 A n c s OA on oc CA cn cc x PA pn pc DA dn dc y) (hb : Below w1.heap.size w1 w2) : Bt w w2 A n c s OA on oc CA cn cc x PA pn pc DA dn dc y :=
  ⟨h.m.below hb, h.y.below h.y.lt hb⟩
theorem boxes3 (w : World) (A : Option Addr) (n c : Nat) (s : Sch) (OA : Option Addr) (on oc : Nat) (CA : Option Addr) (cn cc : Nat) (x : Seg) (PA : Option Addr) (pn pc : Nat) (DA : Option Addr) (dn dc : Nat) (y : Seg) :
    Bt w (((w.alloc (.cells #[.slice A n c, .int .i64 s.key, .int .i64 s.cmp, .int .i64 s.del, .int .i64 s.sort] 24)).alloc (.cells #[.int .i64 x.part, .int .i64 x.id, .int .i64 x.st, .int .i64 x.en, .slice OA on oc, .slice CA cn cc] 28)).alloc (.cells #[.int .i64 y.part, .int .i64 y.id, .int .i64 y.st, .int .i64 y.en, .slice PA pn pc, .slice DA dn dc] 28)) A n c s OA on oc CA cn cc x PA pn pc DA dn dc y := by
  have h := boxes w A n c s OA on oc CA cn cc x
  have z2 : ((w.alloc (.cells #[.slice A n c, .int .i64 s.key, .int .i64 s.cmp, .int .i64 s.del, .int .i64 s.sort] 24)).alloc (.cells #[.int .i64 x.part, .int .i64 x.id, .int .i64 x.st, .int .i64 x.en, .slice OA on oc, .slice CA cn cc] 28)).heap.size = w.heap.size + 1 + 1 := by simp
  have g := Gb.new ((w.alloc (.cells #[.slice A n c, .int .i64 s.key, .int .i64 s.cmp, .int .i64 s.del, .int .i64 s.sort] 24)).alloc (.cells #[.int .i64 x.part, .int .i64 x.id, .int .i64 x.st, .int .i64 x.en, .slice OA on oc, .slice CA cn cc] 28)) y.part y.id y.st y.en PA pn pc DA dn dc
  rw [z2] at g
  exact ⟨⟨h.s.alloc _, h.x.alloc _, h.b.alloc h.b.size _⟩, g⟩
theorem file_same {x y : Seg} (hx : Fi.Good x) (hy : Fi.Good y) : tr (x = y) = decide (fileB x = fileB y) := by
  by_cases h : x = y
  · rw [tr_yes h, h]
    simp
  · rw [tr_no h, decide_eq_false fun e => h (file_inj hx.nice hy.nice hx.fine hy.fine e)]
set_option maxHeartbeats 16000000 in
theorem fileSize_walk (A : Option Addr) (n c : Nat) (s : Sch) (OA : Option Addr) (on oc : Nat) (CA : Option Addr) (cn cc : Nat) (os : List Cr) (x : Seg) (PA : Option Addr) (pn pc : Nat) (DA : Option Addr) (dn dc : Nat) (ps : List Cr) (y : Seg) (w : World) (hS : Wd.Cs w A n c s.cols) (_u : Wd.Sch1 s) (hX : Sg w OA on oc CA cn cc os x) (hY : Sg w PA pn pc DA dn dc ps y) :
    Calls Tryz.prog 5 #[.agg #[.slice A n c, .int .i64 s.key, .int .i64 s.cmp, .int .i64 s.del, .int .i64 s.sort], .agg #[.int .i64 x.part, .int .i64 x.id, .int .i64 x.st, .int .i64 x.en, .slice OA on oc, .slice CA cn cc], .agg #[.int .i64 y.part, .int .i64 y.id, .int .i64 y.st, .int .i64 y.en, .slice PA pn pc, .slice DA dn dc]] w fun e w' => e = .returned (.bool true) ∧ Below w.heap.size w w' := by
  have h1 := boxes3 w A n c s OA on oc CA cn cc x PA pn pc DA dn dc y
  obtain ⟨w1, hw1⟩ : ∃ w1, w1 = ((w.alloc (.cells #[.slice A n c, .int .i64 s.key, .int .i64 s.cmp, .int .i64 s.del, .int .i64 s.sort] 24)).alloc (.cells #[.int .i64 x.part, .int .i64 x.id, .int .i64 x.st, .int .i64 x.en, .slice OA on oc, .slice CA cn cc] 28)).alloc (.cells #[.int .i64 y.part, .int .i64 y.id, .int .i64 y.st, .int .i64 y.en, .slice PA pn pc, .slice DA dn dc] 28) := ⟨_, rfl⟩
  rw [← hw1] at h1
  have H1 := Lib.hid h1
  have Hw1 := Lib.hid hw1
  have HS := Lib.hid hS
  have HX := Lib.hid hX
  have HY := Lib.hid hY
  have Hn := Lib.hid hS.len
  have Hcn := Lib.hid hX.num
  have Hon := Lib.hid hX.offs.len
  have Hdn := Lib.hid hY.num
  have Hpn := Lib.hid hY.offs.len
  have Ca := Lib.hid (awake_any w1)
  clear hw1 h1 hS hX hY
  go_enter Tryz.func5, Tryz.ntmps5
  go_upto_region 1 with fail
  rw [← Hw1.out]
  go_wp2_with fail
  refine Ca.out.mono ?_
  rintro e w2 ⟨rfl, hB2⟩
  have H2 := Lib.hid (H1.out.below hB2)
  have Cf := Lib.hid (Sx.Few_any A n c s w2 (HS.out.below H2.out.m.b))
  obtain ⟨v1, hv1⟩ : ∃ v1, v1 = tr (FewS s) := ⟨_, rfl⟩
  rw [← hv1] at Cf
  have Hv1 := Lib.hid hv1
  obtain ⟨c0, c1, c2, c3, c4⟩ := five H2.out.m.s
  clear hB2 Ca hv1
  go_wp2_with fail
  refine Cf.out.mono ?_
  rintro e w3 ⟨rfl, hB3⟩
  have H3 := Lib.hid (H2.out.below hB3)
  have Cl := Lib.hid (Se.refLight_any OA on oc CA cn cc os x w3 (HX.out.below H3.out.m.b))
  obtain ⟨v2, hv2⟩ : ∃ v2, v2 = tr (LightG x) := ⟨_, rfl⟩
  rw [← hv2] at Cl
  have Hv2 := Lib.hid hv2
  clear hB3 c0 c1 c2 c3 c4 Cf hv2
  obtain ⟨d0, d1, d2, d3, d4, d5⟩ := Gb.six H3.out.m.x
  go_wp2_with fail
  refine Cl.out.mono ?_
  rintro e w35 ⟨rfl, hB35⟩
  have H35 := Lib.hid (H3.out.below hB35)
  have Cl := Lib.hid (Se.refLight_any PA pn pc DA dn dc ps y w35 (HY.out.below H35.out.m.b))
  obtain ⟨v3, hv3⟩ : ∃ v3, v3 = tr (LightG y) := ⟨_, rfl⟩
  rw [← hv3] at Cl
  have Hv3 := Lib.hid hv3
  clear hB35 d0 d1 d2 d3 d4 d5 hv3
  obtain ⟨d0, d1, d2, d3, d4, d5⟩ := Gb.six H35.out.y
  go_wp2_with fail
  refine Cl.out.mono ?_
  rintro e w4 ⟨rfl, hB4⟩
  have H4 := Lib.hid (H35.out.below hB4)
  clear hB4 d0 d1 d2 d3 d4 d5 Cl
  cases v1
  case false =>
    go_wp2_with fail
    go_ret
    exact ⟨rfl, H4.out.m.b⟩
  cases v2
  case false =>
    go_wp2_with fail
    go_ret
    exact ⟨rfl, H4.out.m.b⟩
  cases v3
  case false =>
    go_wp2_with fail
    go_ret
    exact ⟨rfl, H4.out.m.b⟩
  have hfew := (tr_iff (p := FewS s)).1 Hv1.out.symm
  have hli := (tr_iff (p := LightG x)).1 Hv2.out.symm
  have hli2 := (tr_iff (p := LightG y)).1 Hv3.out.symm
  have hn : n ≤ 12 := by have := hfew.1; have := Hn.out; omega
  have hcn : cn ≤ 12 := by have := hli.2.1; have := Hcn.out; omega
  have hon : on ≤ 200 := by have := hli.1; have := Hon.out; omega
  have hdn : dn ≤ 12 := by have := hli2.2.1; have := Hdn.out; omega
  have hpn : pn ≤ 200 := by have := hli2.1; have := Hpn.out; omega
  have Hlt := Lib.hid (lt_light HX.out hli)
  have Hli := Lib.hid hli
  have Hlt2 := Lib.hid (lt_light HY.out hli2)
  have Hli2 := Lib.hid hli2
  obtain ⟨c0, c1, c2, c3, c4⟩ := five H4.out.m.s
  obtain ⟨d0, d1, d2, d3, d4, d5⟩ := Gb.six H4.out.m.x
  clear hfew hli hli2 Hv1 Hv2 Hv3
  by_cases hok : Ok s x
  case neg =>
    have C1 := Lib.hid (Encode_no A n c s OA on oc CA cn cc os x w4 (HS.out.below H4.out.m.b) (HX.out.below H4.out.m.b) Hlt.out (by omega) (by omega) (by omega) hok)
    clear hok
    go_wp2_with fail
    refine C1.out.mono ?_
    rintro e w5 ⟨rfl, hB5⟩
    have H5 := Lib.hid (H4.out.below hB5)
    clear hB5 C1 c0 c1 c2 c3 c4 d0 d1 d2 d3 d4 d5
    obtain ⟨c0, c1, c2, c3, c4⟩ := five H5.out.m.s
    obtain ⟨d0, d1, d2, d3, d4, d5⟩ := Gb.six H5.out.y
    by_cases hok2 : Ok s y
    · have HG2 := Lib.hid (light_good HY.out hok2 Hli2.out)
      have C2 := Lib.hid (Encode_yes A n c s PA pn pc DA dn dc ps y w5 (HS.out.below H5.out.m.b) (HY.out.below H5.out.m.b) Hlt2.out (by omega) (by omega) (by omega) hok2 HG2.out)
      clear hok2
      go_wp2_with fail
      refine C2.out.mono ?_
      rintro e w6 ⟨B6, n6, c6, rfl, hS6, hB6⟩
      have H6 := Lib.hid (H5.out.below hB6)
      clear hS6 hB6 C2 c0 c1 c2 c3 c4 d0 d1 d2 d3 d4 d5
      go_wp2_with fail
      go_ret
      exact ⟨rfl, H6.out.m.b⟩
    · have C2 := Lib.hid (Encode_no A n c s PA pn pc DA dn dc ps y w5 (HS.out.below H5.out.m.b) (HY.out.below H5.out.m.b) Hlt2.out (by omega) (by omega) (by omega) hok2)
      clear hok2
      go_wp2_with fail
      refine C2.out.mono ?_
      rintro e w6 ⟨rfl, hB6⟩
      have H6 := Lib.hid (H5.out.below hB6)
      clear hB6 C2 c0 c1 c2 c3 c4 d0 d1 d2 d3 d4 d5
      go_wp2_with fail
      go_ret
      exact ⟨rfl, H6.out.m.b⟩
  have HG := Lib.hid (light_good HX.out hok Hli.out)
  have C1 := Lib.hid (Encode_yes A n c s OA on oc CA cn cc os x w4 (HS.out.below H4.out.m.b) (HX.out.below H4.out.m.b) Hlt.out (by omega) (by omega) (by omega) hok HG.out)
  have Hok := Lib.hid hok
  clear hok
  go_wp2_with fail
  refine C1.out.mono ?_
  rintro e w5 ⟨B5, n5, c5, rfl, hS5, hB5⟩
  have H5 := Lib.hid (H4.out.below hB5)
  have HS5 := Lib.hid hS5
  clear hS5 hB5 C1 c0 c1 c2 c3 c4 d0 d1 d2 d3 d4 d5
  obtain ⟨c0, c1, c2, c3, c4⟩ := five H5.out.m.s
  obtain ⟨d0, d1, d2, d3, d4, d5⟩ := Gb.six H5.out.y
  by_cases hok2 : Ok s y
  case neg =>
    have C2 := Lib.hid (Encode_no A n c s PA pn pc DA dn dc ps y w5 (HS.out.below H5.out.m.b) (HY.out.below H5.out.m.b) Hlt2.out (by omega) (by omega) (by omega) hok2)
    clear hok2
    go_wp2_with fail
    refine C2.out.mono ?_
    rintro e w6 ⟨rfl, hB6⟩
    have H6 := Lib.hid (H5.out.below hB6)
    clear hB6 C2 c0 c1 c2 c3 c4 d0 d1 d2 d3 d4 d5
    go_wp2_with fail
    go_ret
    exact ⟨rfl, H6.out.m.b⟩
  have HG2 := Lib.hid (light_good HY.out hok2 Hli2.out)
  have C2 := Lib.hid (Encode_yes A n c s PA pn pc DA dn dc ps y w5 (HS.out.below H5.out.m.b) (HY.out.below H5.out.m.b) Hlt2.out (by omega) (by omega) (by omega) hok2 HG2.out)
  clear hok2
  go_wp2_with fail
  refine C2.out.mono ?_
  rintro e w6 ⟨B6, n6, c6, rfl, hS6, hB6⟩
  have H6 := Lib.hid (H5.out.below hB6)
  have HS56 := Lib.hid (HS5.out.below hB6)
  have HS6 := Lib.hid hS6
  have Cm := Se.refSame_any OA on oc CA cn cc os x PA pn pc DA dn dc ps y w6 (HX.out.below H6.out.m.b) (HY.out.below H6.out.m.b)
  rw [file_same HG.out HG2.out] at Cm
  obtain ⟨bv, hbv⟩ : ∃ bv, bv = decide (fileB x = fileB y) := ⟨_, rfl⟩
  rw [← hbv] at Cm
  have Cm := Lib.hid Cm
  have Hbv := Lib.hid hbv
  clear hS6 hB6 C2 c0 c1 c2 c3 c4 d0 d1 d2 d3 d4 d5 hbv
  obtain ⟨d0, d1, d2, d3, d4, d5⟩ := Gb.six H6.out.m.x
  obtain ⟨e0, e1, e2, e3, e4, e5⟩ := Gb.six H6.out.y
  go_wp2_with fail
  refine Cm.out.mono ?_
  rintro e w7 ⟨rfl, hB7⟩
  have H7 := Lib.hid (H6.out.below hB7)
  have Cs := Nc.same_any B5 B6 n5 n6 c5 c6 (fileB x) (fileB y) w7 (HS56.out.below hB7) (HS6.out.below hB7)
  rw [← Hbv.out] at Cs
  have Cs := Lib.hid Cs
  clear hB7 Cm d0 d1 d2 d3 d4 d5 e0 e1 e2 e3 e4 e5
  go_wp2_with fail
  refine Cs.out.mono ?_
  rintro e w8 ⟨rfl, hq8⟩
  have H8 := Lib.hid (show Bt w w8 A n c s OA on oc CA cn cc x PA pn pc DA dn dc y by
    obtain ⟨q, rfl⟩ := hq8
    exact H7.out.below (Wd.below_drewN (Below.refl _ _) q))
  clear hq8 Cs
  obtain ⟨hd, hhd⟩ : ∃ hd : Seg, hd = ⟨x.part, x.id, x.st, x.en, [], []⟩ := ⟨_, rfl⟩
  have harg : Se.Arg s hd [] [] := by
    rw [hhd]
    exact ⟨⟨Hok.out.fit.1, fun r hr => by cases hr⟩, Hok.out.head, rfl, trivial⟩
  obtain ⟨z, hz⟩ : ∃ z, z = Se.sealed s hd [] [] := ⟨_, rfl⟩
  have hz0 : z.part = x.part ∧ z.id = x.id ∧ z.st = x.st ∧ z.en = x.en := by rw [hz, hhd]; exact ⟨rfl, rfl, rfl, rfl⟩
  have hzok : Ok s z := by rw [hz]; exact Se.sealed_ok harg (by simp)
  have hzli : LightG z := by rw [hz]; exact light_sealed harg.1 (by simp) (by rw [← Hn.out]; exact hn)
  have hzlen : (fileB z).length ≤ (fileB x).length := by
    rw [hz, hhd]
    exact file_none s x Hok.out.num
  have hz6 : 6 * (2 + n) ≤ (fileB z).length := by
    have := file_six z
    rw [hzok.num, ← Hn.out] at this
    exact this
  have Cb := Se.refBuild_any A n c s none 0 0 none 0 0 [] hd none 0 0 [] none 0 0 [] w8 (HS.out.below H8.out.m.b) (by
    rw [hhd]
    exact ⟨Wd.Sl.none_ _ _, Wd.Cms.none_ _, rfl, (fun _ h => by cases h), HX.out.w0, HX.out.w1, HX.out.w2, HX.out.w3⟩) (Wd.Ls.none_ _) (Wd.Sl.none_ _ _) (fun _ h => by cases h) (by omega) (by omega)
  rw [Se.bld_ok harg (by simp), ← hz] at Cb
  have Cb : Hid (Calls Tryz.prog 14 #[.agg #[.slice A n c, .int .i64 s.key, .int .i64 s.cmp, .int .i64 s.del, .int .i64 s.sort], .agg #[.int .i64 x.part, .int .i64 x.id, .int .i64 x.st, .int .i64 x.en, .slice none 0 0, .slice none 0 0], .slice none 0 0, .slice none 0 0] w8 fun e w' => ∃ ZA zn zc EA en ec zs QA qn qc, e = .returned (.tuple #[.agg #[.int .i64 x.part, .int .i64 x.id, .int .i64 x.st, .int .i64 x.en, .slice ZA zn zc, .slice EA en ec], .slice QA qn qc, .int .i64 0]) ∧ Sg w' ZA zn zc EA en ec zs z ∧ Below w8.heap.size w8 w') := by
    have e1 : hd.part = x.part ∧ hd.id = x.id ∧ hd.st = x.st ∧ hd.en = x.en := by rw [hhd]; exact ⟨rfl, rfl, rfl, rfl⟩
    rw [e1.1, e1.2.1, e1.2.2.1, e1.2.2.2] at Cb
    refine Lib.hid (Cb.mono fun e w' h => ?_)
    obtain ⟨ZA, zn, zc, EA, en, ec, zs, QA, qn, qc, h1, h2, -, h4⟩ := Se.outBd h
    rw [hz0.1, hz0.2.1, hz0.2.2.1, hz0.2.2.2] at h1
    exact ⟨ZA, zn, zc, EA, en, ec, zs, QA, qn, qc, h1, h2, h4⟩
  have HZ := Lib.hid (And.intro hz0 (And.intro hzok (And.intro hzli (And.intro hzlen hz6))))
  clear hz hz0 hzok hzli hzlen hz6 harg hhd
  obtain ⟨c0, c1, c2, c3, c4⟩ := five H8.out.m.s
  obtain ⟨d0, d1, d2, d3, d4, d5⟩ := Gb.six H8.out.m.x
  go_wp2_with fail
  refine Cb.out.mono ?_
  rintro e w9 ⟨ZA, zn, zc, EA, en, ec, zs, QA, qn, qc, rfl, hZ9, hB9⟩
  have al := (Below.refl w9.heap.size w9).alloc (Nat.le_refl _) (.cells #[.int .i64 x.part, .int .i64 x.id, .int .i64 x.st, .int .i64 x.en, .slice ZA zn zc, .slice EA en ec] 28)
  have xb := Gb.new w9 x.part x.id x.st x.en ZA zn zc EA en ec
  obtain ⟨w10, hw10⟩ : ∃ w10, w10 = w9.alloc (.cells #[.int .i64 x.part, .int .i64 x.id, .int .i64 x.st, .int .i64 x.en, .slice ZA zn zc, .slice EA en ec] 28) := ⟨_, rfl⟩
  rw [← hw10] at al xb
  have H10 := Lib.hid (H8.out.below (hB9.trans (al.mono hB9.size)))
  have XB := Lib.hid xb
  have hsg := hZ9.below al
  have hgz := light_good hsg HZ.out.2.1 HZ.out.2.2.1
  have Ce := Encode_yes A n c s ZA zn zc EA en ec zs z w10 (HS.out.below H10.out.m.b) hsg (lt_light hsg HZ.out.2.2.1) (by omega) (by have := hsg.num; have := HZ.out.2.2.1.2.1; omega) (by have := hsg.offs.len; have := HZ.out.2.2.1.1; omega) HZ.out.2.1 hgz
  rw [HZ.out.1.1, HZ.out.1.2.1, HZ.out.1.2.2.1, HZ.out.1.2.2.2] at Ce
  have Ce := Lib.hid Ce
  have Hw10 := Lib.hid hw10
  clear hw10 hZ9 hB9 al xb hsg hgz Cb c0 c1 c2 c3 c4 d0 d1 d2 d3 d4 d5
  obtain ⟨c0, c1, c2, c3, c4⟩ := five H10.out.m.s
  obtain ⟨d0, d1, d2, d3, d4, d5⟩ := Gb.six XB.out
  go_upto_region 14 with fail
  rw [← Hw10.out]
  go_wp2_with fail
  refine Ce.out.mono ?_
  rintro e w11 ⟨B7, n7, c7, rfl, hS7, hB11⟩
  have H11 := Lib.hid (H10.out.below hB11)
  have g1 : 6 * (2 + n) ≤ n7 := by rw [hS7.len]; exact HZ.out.2.2.2.2
  have g2 : n7 ≤ n5 := by rw [hS7.len, HS5.out.len]; exact HZ.out.2.2.2.1
  have k1 : (6 * (2 + (n : Int))) ≤ (n7 : Int) := by omega
  have k2 : (n7 : Int) ≤ (n5 : Int) := by omega
  have k3 : decide (6 * (2 + (n : Int)) ≤ (n7 : Int)) = true := decide_eq_true k1
  have k4 : decide ((n7 : Int) ≤ (n5 : Int)) = true := decide_eq_true k2
  have k5 : decide (n7 ≤ n5) = true := decide_eq_true g2
  have k6 : (bv == bv) = true := by cases bv <;> rfl
  clear hS7 hB11 Ce c0 c1 c2 c3 c4 d0 d1 d2 d3 d4 d5
  obtain ⟨c0, c1, c2, c3, c4⟩ := five H11.out.m.s
  go_wp2_with fail
  go_ret
  exact ⟨rfl, H11.out.m.b⟩
end Lw
end Go.Proofs.YtaoeipehpakngaaGreatDoor
