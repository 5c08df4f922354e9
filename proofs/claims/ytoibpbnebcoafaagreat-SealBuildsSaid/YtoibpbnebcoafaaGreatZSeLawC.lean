/- The walk of the statement SealBuilds of layer 12. -/
import Derived.Deep.RegionHeld3
import Derived.Deep.DeepCutAuto
import Derived.Deep.QuietTactic
import Derived.BigQuiet
import Derived.WalkLawsBesides
import Derived.Test.YtoibpbnebcoafaaGreatPk50
import Derived.Test.YtoibpbnebcoafaaGreatPk52
import Derived.Test.YtoibpbnebcoafaaGreatPk49
import Derived.Test.YtoibpbnebcoafaaGreatPk23
import Derived.Test.YtoibpbnebcoafaaGreatPk44
namespace Go.Proofs.YtoibpbnebcoafaaGreat
set_option maxRecDepth 20000
open Go.RowKit
namespace Lw
open Se
open Va (Vl)
open Sc (Sch MayS FitS tr tr_yes tr_no tr_iff tr_congr)
open Sx (Sb five FewS)
open Wd (Cr Rcd)
open Ssm (ns)
set_option maxHeartbeats 16000000 in
theorem sealBuilds_walk (A : Option Addr) (n c : Nat) (s : Sch) (OA : Option Addr) (on oc : Nat) (CA : Option Addr) (cn cc : Nat) (os : List Cr) (x : Seg) (B : Option Addr) (m d : Nat) (l : List Rcd) (less : Int) (w : World) (hS : Wd.Cs w A n c s.cols) (_u : Wd.Sch1 s) (hX : Sg w OA on oc CA cn cc os x) (hR : Wd.Rcs w B m d l) (hi0 : -9223372036854775808 ≤ less) (hi1 : less ≤ 9223372036854775807) :
    Calls Tryz.prog 3 #[.agg #[.slice A n c, .int .i64 s.key, .int .i64 s.cmp, .int .i64 s.del, .int .i64 s.sort], .agg #[.int .i64 x.part, .int .i64 x.id, .int .i64 x.st, .int .i64 x.en, .slice OA on oc, .slice CA cn cc], .slice B m d, .int .i64 less] w fun e w' => e = .returned (.bool true) ∧ Below w.heap.size w w' := by
  obtain ⟨w1, hw1⟩ : ∃ w1, w1 = (w.alloc (.cells #[.slice A n c, .int .i64 s.key, .int .i64 s.cmp, .int .i64 s.del, .int .i64 s.sort] 24)).alloc (.cells #[.int .i64 x.part, .int .i64 x.id, .int .i64 x.st, .int .i64 x.en, .slice OA on oc, .slice CA cn cc] 28) := ⟨_, rfl⟩
  have z1 : (w.alloc (.cells #[.slice A n c, .int .i64 s.key, .int .i64 s.cmp, .int .i64 s.del, .int .i64 s.sort] 24)).heap.size = w.heap.size + 1 := by simp
  have H1 : Bm w w1 A n c s OA on oc CA cn cc x := by
    have g1 := Gb.new (w.alloc (.cells #[.slice A n c, .int .i64 s.key, .int .i64 s.cmp, .int .i64 s.del, .int .i64 s.sort] 24)) x.part x.id x.st x.en OA on oc CA cn cc
    rw [z1] at g1
    rw [hw1]
    exact ⟨(Wd.Bx.new w _ _).alloc _, g1, ((Below.refl _ _).alloc (Nat.le_refl _) _).alloc (by simp) _⟩
  have H1 := Lib.hid H1
  have Hw1 := Lib.hid hw1
  have HS := Lib.hid hS
  have HX := Lib.hid hX
  have HR := Lib.hid hR
  have Hn := Lib.hid hS.len
  have Hm := Lib.hid hR.len
  have Ca := Lib.hid (awake_any w1)
  clear hw1 z1 hX hS hR
  go_enter Tryz.func3, Tryz.ntmps3
  go_upto_region 1 with fail
  rw [← Hw1.out]
  go_wp2_with fail
  refine Ca.out.mono ?_
  rintro e w2 ⟨rfl, hB2⟩
  have H2 := Lib.hid (H1.out.below hB2)
  have Cf := Lib.hid (Sx.Few_any A n c s w2 (HS.out.below H2.out.b))
  obtain ⟨v1, hv1⟩ : ∃ v1, v1 = tr (FewS s) := ⟨_, rfl⟩
  rw [← hv1] at Cf
  have Hv1 := Lib.hid hv1
  obtain ⟨c0, c1, c2, c3, c4⟩ := five H2.out.s
  clear hB2 Ca hv1
  go_wp2_with fail
  refine Cf.out.mono ?_
  rintro e w3 ⟨rfl, hB3⟩
  have H3 := Lib.hid (H2.out.below hB3)
  clear hB3 c0 c1 c2 c3 c4 Cf
  cases v1
  case false =>
    go_wp2_with fail
    go_ret
    exact ⟨rfl, H3.out.b⟩
  have hfew := (tr_iff (p := FewS s)).1 Hv1.out.symm
  have hn : n ≤ 12 := by have := hfew.1; have := Hn.out; omega
  have Cg := Lib.hid (Rw.few_any B m d l w3 (HR.out.below H3.out.b))
  clear hfew Hv1
  by_cases hQ : Rw.FewR l
  case neg =>
    rw [tr_no hQ] at Cg
    clear hQ
    go_wp2_with fail
    refine Cg.out.mono ?_
    rintro e w4 ⟨rfl, e4⟩
    subst e4
    go_wp2_with fail
    go_ret
    exact ⟨rfl, H3.out.b⟩
  rw [if_pos (tr_yes hQ)] at Cg
  have hm : m ≤ 60 := by have := hQ.1; have := Hm.out; omega
  have HQ := Lib.hid hQ
  clear hQ
  go_wp2_with fail
  refine Cg.out.mono ?_
  rintro e w4 ⟨rfl, e4⟩
  subst e4
  have Cp := Lib.hid (parted_any B m d l w4 (HR.out.below H3.out.b) (by omega))
  clear Cg
  go_wp2_with fail
  refine Cp.out.mono ?_
  rintro e w5 ⟨RA, rc, QA, qc, rfl, hL5, hQ5, hB5⟩
  rw [← Hm.out] at hL5 hQ5 ⊢
  have H5 := Lib.hid (H3.out.below hB5)
  have HL := Lib.hid hL5
  have HO := Lib.hid hQ5
  clear hL5 hQ5 hB5 Cp H3
  have HF := Lib.hid (fits_ofs HR.out)
  have Hz := Lib.hid (few_size HQ.out)
  clear HR HQ
  obtain ⟨L, hL⟩ : ∃ L, L = rws l := ⟨_, rfl⟩
  obtain ⟨P0, hP⟩ : ∃ P, P = ofs l := ⟨_, rfl⟩
  rw [← hL] at HL Hz
  rw [← hP] at HO HF
  clear hL hP
  obtain ⟨bb, hbb⟩ : ∃ bb : Bool, bb = (decide (less = 1) && decide (0 < m)) := ⟨_, rfl⟩
  have Hbb := Lib.hid hbb
  clear hbb
  obtain ⟨wv, hwv⟩ : ∃ wv, wv = w5 := ⟨_, rfl⟩
  subst hwv
  go_upto_region 6 with fail
  go_cut [48] (fun bv wz => bv = .bool bb ∧ wz = wv)
  case first =>
    by_cases h1 : less = 1
    · subst h1
      by_cases h2 : 0 < m
      · have t2 := Hbb.out
        have h2i : (0 : Int) < (m : Int) := by omega
        simp [h2] at t2
        subst t2
        go_wp2_with fail
        go_meet
        exact ⟨rfl, rfl⟩
      · have t2 := Hbb.out
        simp [h2] at t2
        subst t2
        obtain rfl : m = 0 := by omega
        go_wp2_with fail
        go_meet
        exact ⟨rfl, rfl⟩
    · have t2 := Hbb.out
      simp [h1] at t2
      subst t2
      have h1b : (less == 1) = false := by simpa using h1
      go_wp2_with fail
      go_meet
      exact ⟨rfl, rfl⟩
  case rest =>
  obtain ⟨rfl, hwz⟩ := hcut
  rw [hwz]
  clear hwz
  go_upto_if 48 with fail
  go_cut [12] (fun v wz => ∃ Q q qc' P, v = .slice Q q qc' ∧ Hid (Wd.Sl wv .i64 Q q qc' P ∧ Wd.Fits .i64 P) ∧ wz = wv)
  case first =>
    cases bb
    case false =>
      go_wp2_with fail
      go_meet
      exact ⟨_, _, _, _, rfl, Lib.hid ⟨HO.out, HF.out⟩, rfl⟩
    case true =>
      have t2 := Hbb.out
      have h0 : 0 < m := by
        have : decide (0 < m) = true := by
          cases hd : decide (0 < m)
          · rw [hd] at t2; simp at t2
          · rfl
        exact of_decide_eq_true this
      have h2i : (0 : Int) < (m : Int) := by omega
      have hcp := HO.out.cap
      have hln := HO.out.len
      obtain ⟨b0, f0, hQA, _, _⟩ := HO.out.rd 0 (by omega)
      subst hQA
      clear t2
      by_cases hq1 : qc = 1
      · subst hq1
        obtain rfl : m = 1 := by omega
        have hcut1 := HO.out.cut 1 h0
        simp only [if_true, Nat.sub_self] at hcut1
        have Hc := Lib.hid (And.intro hcut1 (fits_drop HF.out 1))
        clear hcut1 hln
        go_wp2_with fail
        go_meet
        exact ⟨_, _, _, _, rfl, Hc, rfl⟩
      · have hcut1 := HO.out.cut_at 1 h0 hq1
        have Hc := Lib.hid (And.intro hcut1 (fits_drop HF.out 1))
        have hq2 : 1 < qc := by omega
        clear hcut1 hln hq1
        go_wp2_with fail
        go_meet
        exact ⟨_, _, _, _, rfl, Hc, rfl⟩
  case rest =>
  obtain ⟨Q, q, qe, P, rfl, HP, hwz⟩ := hcut
  rw [hwz]
  clear hwz
  have H5 := H5
  obtain ⟨y, O, er, hr⟩ : ∃ y O er, bld s x L P = (y, O, er) := ⟨_, _, _, rfl⟩
  have BS := Lib.hid (fun W (hb : Below wv.heap.size wv W) => HS.out.below (H5.out.b.trans (hb.mono H5.out.b.size)))
  have BX := Lib.hid (fun W (hb : Below wv.heap.size wv W) => HX.out.below (H5.out.b.trans (hb.mono H5.out.b.size)))
  have Cb := Lib.hid (Calls.mono (build_any A n c s OA on oc CA cn cc os x RA m rc L Q q qe P wv (BS.out _ (Below.refl _ _)) (BX.out _ (Below.refl _ _)) HL.out HP.out.1 HP.out.2 (by omega) (by omega)) fun e w' h => outBd (y := y) (O := O) (er := er) (by rw [← hr]; exact h))
  have Cr := Lib.hid (fun W (hb : Below wv.heap.size wv W) => Calls.mono (refBuild_any A n c s OA on oc CA cn cc os x RA m rc L Q q qe P W (BS.out _ hb) (BX.out _ hb) (HL.out.below hb) (HP.out.1.below hb) HP.out.2 (by omega) (by omega)) fun e w' h => outBd (y := y) (O := O) (er := er) (by rw [← hr]; exact h))
  obtain ⟨c0, c1, c2, c3, c4⟩ := five H5.out.s
  obtain ⟨d0, d1, d2, d3, d4, d5⟩ := Gb.six H5.out.x
  clear hr
  go_wp2_with fail
  refine Cb.out.mono ?_
  rintro e w6 ⟨YA, yn, yc, DA, dn, dc, ys, TA, tn, tc, rfl, hX6, hT6, hB6⟩
  have al7 := (Below.refl w6.heap.size w6).alloc (Nat.le_refl _) (.cells #[.int .i64 y.part, .int .i64 y.id, .int .i64 y.st, .int .i64 y.en, .slice YA yn yc, .slice DA dn dc] 28)
  have x7 := Gb.new w6 y.part y.id y.st y.en YA yn yc DA dn dc
  obtain ⟨w7, hw7⟩ : ∃ w7, w7 = w6.alloc (.cells #[.int .i64 y.part, .int .i64 y.id, .int .i64 y.st, .int .i64 y.en, .slice YA yn yc, .slice DA dn dc] 28) := ⟨_, rfl⟩
  rw [← hw7] at al7 x7
  have B57 := Lib.hid (hB6.trans (al7.mono hB6.size))
  have H7 := Lib.hid (H5.out.below B57.out)
  have X7 := Lib.hid x7
  have HY7 := Lib.hid (hX6.below al7)
  have HT7 := Lib.hid (hT6.below al7)
  have Hw7 := Lib.hid hw7
  have C7 := Lib.hid (Cr.out _ B57.out)
  clear hB6 al7 x7 hw7 hX6 hT6 Cb Cr c0 c1 c2 c3 c4 d0 d1 d2 d3 d4 d5
  go_upto_region 9 with fail
  rw [← Hw7.out]
  obtain ⟨c0, c1, c2, c3, c4⟩ := five H7.out.s
  obtain ⟨d0, d1, d2, d3, d4, d5⟩ := Gb.six H7.out.x
  go_wp2_with fail
  refine C7.out.mono ?_
  rintro e w8 ⟨ZA, zn, zc, EA, en, ec, zs, UA, un, uc, rfl, hX8, hT8, hB8⟩
  have al9 := (Below.refl w8.heap.size w8).alloc (Nat.le_refl _) (.cells #[.int .i64 y.part, .int .i64 y.id, .int .i64 y.st, .int .i64 y.en, .slice ZA zn zc, .slice EA en ec] 28)
  have x9 := Gb.new w8 y.part y.id y.st y.en ZA zn zc EA en ec
  obtain ⟨w9, hw9⟩ : ∃ w9, w9 = w8.alloc (.cells #[.int .i64 y.part, .int .i64 y.id, .int .i64 y.st, .int .i64 y.en, .slice ZA zn zc, .slice EA en ec] 28) := ⟨_, rfl⟩
  rw [← hw9] at al9 x9
  have B79 := Lib.hid (hB8.trans (al9.mono hB8.size))
  have X9 := Lib.hid x9
  have Y9 := Lib.hid (X7.out.below X7.out.lt B79.out)
  have HY9 := Lib.hid (HY7.out.below B79.out)
  have HT9 := Lib.hid (HT7.out.below B79.out)
  have HZ9 := Lib.hid (hX8.below al9)
  have HU9 := Lib.hid (hT8.below al9)
  have B59 := Lib.hid (B57.out.trans (B79.out.mono B57.out.size))
  have Hw9 := Lib.hid hw9
  have Cs := refSame_any YA yn yc DA dn dc ys y ZA zn zc EA en ec zs y w9 HY9.out HZ9.out
  rw [tr_yes (rfl : y = y)] at Cs
  have Cs := Lib.hid Cs
  clear hB8 al9 x9 hw9 hX8 hT8 C7 c0 c1 c2 c3 c4 d0 d1 d2 d3 d4 d5 H7 X7 HY7 HT7
  go_upto_region 10 with fail
  rw [← Hw9.out]
  obtain ⟨d0, d1, d2, d3, d4, d5⟩ := Gb.six Y9.out
  obtain ⟨e0, e1, e2, e3, e4, e5⟩ := Gb.six X9.out
  go_wp2_with fail
  refine Cs.out.mono ?_
  rintro e w10 ⟨rfl, hB10⟩
  have HT10 := Lib.hid (HT9.out.below hB10)
  have HU10 := Lib.hid (HU9.out.below hB10)
  have B510 := Lib.hid (B59.out.trans (hB10.mono B59.out.size))
  have Ci := Lib.hid (Nc.ints_yes TA UA tn un tc uc (ns O) (ns O) w10 HT10.out HU10.out rfl)
  clear hB10 Cs d0 d1 d2 d3 d4 d5 e0 e1 e2 e3 e4 e5 Y9 X9 HT9 HU9 HY9 HZ9 B59
  go_wp2_with fail
  refine Ci.out.mono ?_
  rintro e w11 ⟨rfl, hB11⟩
  have B511 := Lib.hid (B510.out.trans (hB11.mono B510.out.size))
  have C1 := Lib.hid (fun W (hb : Below wv.heap.size wv W) => order_any A n c s RA m rc L W (BS.out _ hb) (HL.out.below hb) (by omega) (by omega))
  have C2 := Lib.hid (fun W (hb : Below wv.heap.size wv W) => refOrder_any A n c s RA m rc L W (BS.out _ hb) (HL.out.below hb) (by omega) (by omega) Hz.out)
  obtain ⟨I, hI⟩ : ∃ I, I = ns (order s L) := ⟨_, rfl⟩
  rw [← hI] at C1 C2
  have C3 := Lib.hid (fun (A1 : Option Addr) (n1 c1 : Nat) (A2 : Option Addr) (n2 c2 : Nat) W (h1 : Wd.Sl W .i64 A1 n1 c1 I) (h2 : Wd.Sl W .i64 A2 n2 c2 I) => Nc.ints_yes A1 A2 n1 n2 c1 c2 I I W h1 h2 rfl)
  have bk : ∀ {W : World} {a : Addr} {v : Value}, Below wv.heap.size wv W → wv.cell? a = some v → W.cell? a = some v := fun {W a v} hb hc => (hb.cell (World.block_lt_of_cell? wv a hc)).trans hc
  have sb := five H5.out.s
  have ZZ := Lib.hid (fun (W : World) (hb : Below wv.heap.size wv W) => (show W.cell? ⟨w.heap.size, 0, none⟩ = some (.slice A n c) ∧ W.cell? ⟨w.heap.size, 1, none⟩ = some (.int .i64 s.key) ∧ W.cell? ⟨w.heap.size, 2, none⟩ = some (.int .i64 s.cmp) ∧ W.cell? ⟨w.heap.size, 3, none⟩ = some (.int .i64 s.del) ∧ W.cell? ⟨w.heap.size, 4, none⟩ = some (.int .i64 s.sort) from
    ⟨bk hb sb.1, bk hb sb.2.1, bk hb sb.2.2.1, bk hb sb.2.2.2.1, bk hb sb.2.2.2.2⟩))
  clear hB11 Ci B510 HT10 HU10 hI bk sb
  go_upto_region 12 with fail
  go_cut [21] (fun v wz => v = .bool true ∧ Below wv.heap.size wv wz)
  case first =>
    have hb : Below wv.heap.size wv w11.drew := B511.out.drew
    have z10 := ZZ.out w11.drew hb
    go_region_held3 (fun W => W.cell? ⟨w.heap.size, 0, none⟩ = some (.slice A n c) ∧ W.cell? ⟨w.heap.size, 1, none⟩ = some (.int .i64 s.key) ∧ W.cell? ⟨w.heap.size, 2, none⟩ = some (.int .i64 s.cmp) ∧ W.cell? ⟨w.heap.size, 3, none⟩ = some (.int .i64 s.del) ∧ W.cell? ⟨w.heap.size, 4, none⟩ = some (.int .i64 s.sort)) (with_reducible first | exact z10) (first
      | (go_at_call 17; (with_reducible refine (C1.out _ hb).mono ?_); rintro e w12 ⟨B1, m1, e1, rfl, hV1, hB⟩; have hb := hb.trans (hB.mono hb.size); have z10 := ZZ.out _ hb; (try have hV2 := hV2.below hB))
      | (go_at_call 18; (with_reducible refine (C2.out _ hb).mono ?_); rintro e w12 ⟨B2, m2, e2, rfl, hV2, hB⟩; have hb := hb.trans (hB.mono hb.size); have z10 := ZZ.out _ hb; (try have hV1 := hV1.below hB))
      | (go_at_call 16; (with_reducible refine (C3.out B1 m1 e1 B2 m2 e2 _ hV1 hV2).mono ?_); rintro e w13 ⟨rfl, hB9⟩; have hb := hb.trans (hB9.mono hb.size); have z10 := ZZ.out _ hb))
    all_goals (
      go_wp2_with fail
      go_meet
      exact ⟨rfl, hb⟩)
  case rest =>
  obtain ⟨rfl, hbc⟩ := hcut
  have Hbc := Lib.hid (H5.out.b.trans (hbc.mono H5.out.b.size))
  clear hbc
  go_wp2_with fail
  go_ret
  exact ⟨by simp, Hbc.out⟩
end Lw
end Go.Proofs.YtoibpbnebcoafaaGreat
