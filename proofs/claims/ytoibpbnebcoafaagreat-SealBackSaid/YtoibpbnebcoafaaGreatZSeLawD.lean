/- The walk of the statement SealBack of layer 12. -/
import Derived.Deep.RegionHeld3
import Derived.Deep.DeepCutAuto
import Derived.Deep.QuietTactic
import Derived.BigQuiet
import Derived.WalkLawsBesides
import Derived.Test.YtoibpbnebcoafaaGreatPk50
import Derived.Test.YtoibpbnebcoafaaGreatPk44
import Derived.Test.YtoibpbnebcoafaaGreatPk21
import Derived.Test.YtoibpbnebcoafaaGreatPk08
namespace Go.Proofs.YtoibpbnebcoafaaGreat
set_option maxRecDepth 20000
open Go.RowKit
namespace Lw
open Se
open Va (Vl)
open Sc (Sch MayS FitS tr tr_yes tr_no tr_iff tr_congr)
open Sx (Sb five FewS)
open Wd (Cr Rcd)
open Ssm (ns)
set_option maxHeartbeats 16000000 in
theorem sealBack_walk (A : Option Addr) (n c : Nat) (s : Sch) (OA : Option Addr) (on oc : Nat) (CA : Option Addr) (cn cc : Nat) (os : List Cr) (x : Seg) (B : Option Addr) (m d : Nat) (l : List Rcd) (w : World) (hS : Wd.Cs w A n c s.cols) (_u : Wd.Sch1 s) (hX : Sg w OA on oc CA cn cc os x) (hR : Wd.Rcs w B m d l) :
    Calls Tryz.prog 5 #[.agg #[.slice A n c, .int .i64 s.key, .int .i64 s.cmp, .int .i64 s.del, .int .i64 s.sort], .agg #[.int .i64 x.part, .int .i64 x.id, .int .i64 x.st, .int .i64 x.en, .slice OA on oc, .slice CA cn cc], .slice B m d] w fun e w' => e = .returned (.bool true) ∧ Below w.heap.size w w' := by
  obtain ⟨w1, hw1⟩ : ∃ w1, w1 = (w.alloc (.cells #[.slice A n c, .int .i64 s.key, .int .i64 s.cmp, .int .i64 s.del, .int .i64 s.sort] 24)).alloc (.cells #[.int .i64 x.part, .int .i64 x.id, .int .i64 x.st, .int .i64 x.en, .slice OA on oc, .slice CA cn cc] 28) := ⟨_, rfl⟩
  have z1 : (w.alloc (.cells #[.slice A n c, .int .i64 s.key, .int .i64 s.cmp, .int .i64 s.del, .int .i64 s.sort] 24)).heap.size = w.heap.size + 1 := by simp
  have H1 : Bm w w1 A n c s OA on oc CA cn cc x := by
    have g1 := Gb.new (w.alloc (.cells #[.slice A n c, .int .i64 s.key, .int .i64 s.cmp, .int .i64 s.del, .int .i64 s.sort] 24)) x.part x.id x.st x.en OA on oc CA cn cc
    rw [z1] at g1
    rw [hw1]
    exact ⟨(Wd.Bx.new w _ _).alloc _, g1, ((Below.refl _ _).alloc (Nat.le_refl _) _).alloc (by simp) _⟩
  have H1 := Lib.hid H1
  have Hw1 := Lib.hid hw1
  have HS := Lib.hid hS
  have HX := Lib.hid hX
  have HR := Lib.hid hR
  have Hn := Lib.hid hS.len
  have Hm := Lib.hid hR.len
  have Ca := Lib.hid (awake_any w1)
  clear hw1 z1 hX hS hR
  go_enter Tryz.func5, Tryz.ntmps5
  go_upto_region 1 with fail
  rw [← Hw1.out]
  go_wp2_with fail
  refine Ca.out.mono ?_
  rintro e w2 ⟨rfl, hB2⟩
  have H2 := Lib.hid (H1.out.below hB2)
  have Cf := Lib.hid (Sx.Few_any A n c s w2 (HS.out.below H2.out.b))
  obtain ⟨v1, hv1⟩ : ∃ v1, v1 = tr (FewS s) := ⟨_, rfl⟩
  rw [← hv1] at Cf
  have Hv1 := Lib.hid hv1
  obtain ⟨c0, c1, c2, c3, c4⟩ := five H2.out.s
  clear hB2 Ca hv1
  go_wp2_with fail
  refine Cf.out.mono ?_
  rintro e w3 ⟨rfl, hB3⟩
  have H3 := Lib.hid (H2.out.below hB3)
  clear hB3 c0 c1 c2 c3 c4 Cf
  cases v1
  case false =>
    go_wp2_with fail
    go_ret
    exact ⟨rfl, H3.out.b⟩
  have hfew := (tr_iff (p := FewS s)).1 Hv1.out.symm
  have hn : n ≤ 12 := by have := hfew.1; have := Hn.out; omega
  have Cg := Lib.hid (Rw.few_any B m d l w3 (HR.out.below H3.out.b))
  clear hfew Hv1
  by_cases hQ : Rw.FewR l
  case neg =>
    rw [tr_no hQ] at Cg
    clear hQ
    go_wp2_with fail
    refine Cg.out.mono ?_
    rintro e w4 ⟨rfl, e4⟩
    subst e4
    go_wp2_with fail
    go_ret
    exact ⟨rfl, H3.out.b⟩
  rw [if_pos (tr_yes hQ)] at Cg
  have hm : m ≤ 60 := by have := hQ.1; have := Hm.out; omega
  have HQ := Lib.hid hQ
  clear hQ
  go_wp2_with fail
  refine Cg.out.mono ?_
  rintro e w4 ⟨rfl, e4⟩
  subst e4
  have Cp := Lib.hid (parted_any B m d l w4 (HR.out.below H3.out.b) (by omega))
  clear Cg
  go_wp2_with fail
  refine Cp.out.mono ?_
  rintro e w5 ⟨RA, rc, QA, qc, rfl, hL5, hQ5, hB5⟩
  rw [← Hm.out] at hL5 hQ5 ⊢
  have H5 := Lib.hid (H3.out.below hB5)
  have HL := Lib.hid hL5
  have HO := Lib.hid hQ5
  clear hL5 hQ5 hB5 Cp H3
  have HF := Lib.hid (fits_ofs HR.out)
  have Hrl := Lib.hid (show (rws l).length = m by rw [rws_len]; exact Hm.out.symm)
  clear HR HQ
  obtain ⟨L, hL⟩ : ∃ L, L = rws l := ⟨_, rfl⟩
  obtain ⟨P, hP⟩ : ∃ P, P = ofs l := ⟨_, rfl⟩
  rw [← hL] at HL Hrl
  rw [← hP] at HO HF
  clear hL hP
  obtain ⟨c0, c1, c2, c3, c4⟩ := five H5.out.s
  obtain ⟨d0, d1, d2, d3, d4, d5⟩ := Gb.six H5.out.x
  by_cases hA : Arg s x L P
  case neg =>
    have Cb := Lib.hid (build_no A n c s OA on oc CA cn cc os x RA m rc L QA m qc P w5 (HS.out.below H5.out.b) (HX.out.below H5.out.b) HL.out HO.out HF.out hn hm hA)
    clear hA
    go_wp2_with fail
    refine Cb.out.mono ?_
    rintro e w6 ⟨YA, yc, DA, dn, dc, TA, tc, rfl, hB6⟩
    have H6 := Lib.hid (H5.out.below hB6)
    clear hB6 c0 c1 c2 c3 c4 d0 d1 d2 d3 d4 d5 Cb
    go_wp2_with fail
    go_ret
    exact ⟨rfl, H6.out.b.alloc H6.out.b.size _⟩
  have Cb := Lib.hid (build_yes A n c s OA on oc CA cn cc os x RA m rc L QA m qc P w5 (HS.out.below H5.out.b) (HX.out.below H5.out.b) HL.out HO.out HF.out hn hm hA)
  have HA := Lib.hid hA
  clear hA
  go_wp2_with fail
  refine Cb.out.mono ?_
  rintro e w6 ⟨YA, yc, DA, dn, dc, ys, TA, tc, rfl, hX6, hT6, hB6, hlt6, hdn6⟩
  have al7 := (Below.refl w6.heap.size w6).alloc (Nat.le_refl _) (.cells #[.int .i64 x.part, .int .i64 x.id, .int .i64 x.st, .int .i64 x.en, .slice YA m yc, .slice DA dn dc] 28)
  have x7 := Gb.new w6 x.part x.id x.st x.en YA m yc DA dn dc
  obtain ⟨w7, hw7⟩ : ∃ w7, w7 = w6.alloc (.cells #[.int .i64 x.part, .int .i64 x.id, .int .i64 x.st, .int .i64 x.en, .slice YA m yc, .slice DA dn dc] 28) := ⟨_, rfl⟩
  rw [← hw7] at al7 x7
  have B57 := hB6.trans (al7.mono hB6.size)
  have H7 := Lib.hid (H5.out.below B57)
  have X7 := Lib.hid x7
  have HY7 := Lib.hid (hX6.below al7)
  have HT7 := Lib.hid (hT6.below al7)
  have HL7 := Lib.hid (HL.out.below B57)
  have HO7 := Lib.hid (HO.out.below B57)
  have Hlt := Lib.hid hlt6
  have Hw7 := Lib.hid hw7
  have Cr := Lib.hid (rows_sealed HY7.out hlt6 hdn6 hm HA.out.1)
  clear hB6 al7 x7 hw7 hX6 hT6 B57 hlt6 Cb c0 c1 c2 c3 c4 d0 d1 d2 d3 d4 d5 HL HO
  go_upto_region 7 with fail
  rw [← Hw7.out]
  obtain ⟨d0, d1, d2, d3, d4, d5⟩ := Gb.six X7.out
  go_wp2_with fail
  refine Cr.out.mono ?_
  rintro e w8 ⟨GA, gc, rfl, hG8, hB8⟩
  have H8 := Lib.hid (H7.out.below hB8)
  have X8 := Lib.hid (X7.out.below X7.out.lt hB8)
  have HY8 := Lib.hid (HY7.out.below hB8)
  have HT8 := Lib.hid (HT7.out.below hB8)
  have HL8 := Lib.hid (HL7.out.below hB8)
  have HO8 := Lib.hid (HO7.out.below hB8)
  have HG8 := Lib.hid hG8
  have Cm := Lib.hid (may_sealed (HS.out.below H8.out.b) HY8.out Hlt.out hn hdn6 hm HA.out)
  clear hB8 hG8 Cr d0 d1 d2 d3 d4 d5 H7 X7 HY7 HT7 HL7 HO7
  obtain ⟨c0, c1, c2, c3, c4⟩ := five H8.out.s
  obtain ⟨d0, d1, d2, d3, d4, d5⟩ := Gb.six X8.out
  go_wp2_with fail
  refine Cm.out.mono ?_
  rintro e w9 ⟨rfl, hB9⟩
  have H9 := Lib.hid (H8.out.below hB9)
  have X9 := Lib.hid (X8.out.below X8.out.lt hB9)
  have HY9 := Lib.hid (HY8.out.below hB9)
  have HT9 := Lib.hid (HT8.out.below hB9)
  have HL9 := Lib.hid (HL8.out.below hB9)
  have HO9 := Lib.hid (HO8.out.below hB9)
  have HG9 := Lib.hid (HG8.out.below hB9)
  clear hB9 Cm c0 c1 c2 c3 c4 d0 d1 d2 d3 d4 d5 H8 X8 HY8 HT8 HL8 HO8 HG8
  have d4 := (Gb.six X9.out).2.2.2.2.1
  have q0 : ((m : Int) != (m : Int)) = false := by simp
  obtain ⟨j0, hj, gz0, gz1, gz2⟩ := info_parts Cx.info_b
  obtain ⟨zv, hzv⟩ : ∃ zv : Array Value, zv = ((List.replicate m false).map Value.bool).toArray := ⟨_, rfl⟩
  have hmv : ∀ X : World, (Instr.makeSlice 51 (.int .i64 (m : Int)) (.int .i64 (m : Int))).run Tryz.prog X = .ok (.slice (some ⟨X.heap.size, 0, none⟩) m m) (X.alloc (.cells zv 4)) := fun X => by
    have := run_make (P := Tryz.prog) X 51 4 j0 _ Tryz.underlying51 hj gz0 .i64 .i64 (m : Int) (m : Int) (by omega) (by omega) (by rw [gz2]; omega) (by omega)
    rw [this, hzv, gz1, Int.toNat_natCast, ← Cx.made_false]
  have rowv : Cx.RowB (w9.alloc (.cells zv 4)) w9.heap.size (Se.seen s L 0) := by rw [hzv, seen_zero, Hrl.out]; exact Wd.Bx.new w9 _ _
  have R0 := Lib.hid (And.intro rowv ((Below.refl w9.heap.size w9).alloc (Nat.le_refl _) (.cells zv 4)))
  clear hzv rowv hj gz0 gz1 gz2
  go_wp2_with fail
  clear hmv q0 d4
  generalize w9.alloc (.cells zv 4) = w10 at *
  go_loopw [16] (fun i wr => ∃ k : Nat, i = .int .i64 k ∧ k ≤ m ∧ Hid (Cx.RowB wr w9.heap.size (Se.seen s L k) ∧ Below w9.heap.size w9 wr)) (fun i _ => m - (intOf i).toNat)
  case atStart => exact ⟨0, rfl, Nat.zero_le _, R0⟩
  case round =>
    obtain ⟨k, rfl, hk, hI⟩ := hrel
    clear R0
    have hb9 := hI.out.2
    have X := Lib.hid (X9.out.below X9.out.lt hb9)
    by_cases hlt : k < m
    · have hkI : (k : Int) < (m : Int) := by omega
      have hkL : k < L.length := by rw [Hrl.out]; exact hlt
      obtain ⟨q, hq⟩ : ∃ q, q = at_ s L k := ⟨_, rfl⟩
      have hqL : q < L.length := by rw [hq]; exact at_lt hkL
      have hqm : q < m := by rw [Hrl.out] at hqL; exact hqL
      have hqI : (q : Int) < (m : Int) := by omega
      have hq0 : (0 : Int) ≤ (q : Int) := by omega
      obtain ⟨tb, tf, hTA, _, t0⟩ := (HT9.out.below hb9).rd k (by rw [Ssm.ns_len, arr_len]; exact hkL)
      subst hTA
      rw [Ssm.ns_get, show (arr s L).getD k 0 = q from hq.symm] at t0
      obtain ⟨z, hz⟩ : ∃ z, z = P.getD q 0 := ⟨_, rfl⟩
      obtain ⟨yb, yf, hYA, _, y0⟩ := (HY9.out.offs.below hb9).rd k (by rw [sealed_offs_len]; exact hkL)
      subst hYA
      rw [sealed_offs hkL, show (arr s L).getD k 0 = q from hq.symm, ← hz] at y0
      obtain ⟨qb, qf, hQA, _, p0⟩ := (HO9.out.below hb9).rd q (by rw [← HO9.out.len]; exact hqm)
      subst hQA
      rw [← hz] at p0
      have s0 := hI.out.1.cell q (by rw [seen_len]; exact hqL)
      have sf := hI.out.1.free q
      rw [show (Se.seen s L k).getD q false = false by rw [hq]; exact seen_new hkL] at s0
      obtain ⟨gb, gf, A1, n1, c1, hGA, _, g0, hV1⟩ := HG9.out.at_ k (by rw [srow_len]; exact hkL)
      subst hGA
      rw [srow_get hkL, ← hq] at hV1
      obtain ⟨rb, rf, A2, n2, c2, hRA, _, r0, hV2⟩ := HL9.out.at_ q hqL
      subst hRA
      obtain ⟨Y, hY⟩ : ∃ Y, Y = L.getD q [] := ⟨_, rfl⟩
      rw [← hY] at hV1 hV2
      have hnx : (Se.seen s L k).set q true = Se.seen s L (k + 1) := by rw [hq]; exact seen_next hkL
      have e1 : decide ((q : Int) < 0) = false := decide_eq_false (by omega)
      have e2 : decide ((m : Int) ≤ (q : Int)) = false := decide_eq_false (by omega)
      have e3 : ((z : Int) != z) = false := by simp
      have HI := Lib.hid hI.out
      have Hnx := Lib.hid hnx
      have d4 := (Gb.six X.out).2.2.2.2.1
      have bk : ∀ {W : World} {a : Addr} {v : Value}, Below w9.heap.size w9 W → w9.cell? a = some v → W.cell? a = some v := fun {W a v} hb hc => (hb.cell (World.block_lt_of_cell? w9 a hc)).trans hc
      have ZZ := Lib.hid (fun (W : World) (hb : Below w9.heap.size w9 W) => (show W.cell? ⟨gb, gf + k, none⟩ = some (.slice A1 n1 c1) ∧ W.cell? ⟨rb, rf + q, none⟩ = some (.slice A2 n2 c2) from ⟨bk hb g0, bk hb r0⟩))
      have Cs := Lib.hid (fun W (hb : Below w9.heap.size w9 W) => Sx.sameV_any A1 n1 c1 Y A2 n2 c2 Y W (hV1.below hb) (hV2.below hb))
      rw [tr_yes (rfl : Y = Y)] at Cs
      clear hI hnx hV1 hV2 hq hz hY hb9 hkL hqL g0 r0 bk
      go_upto_region 17 with fail
      go_quiet (fail)
      have RB := Lib.hid (show Cx.RowB (wr.drewN nq) w9.heap.size (Se.seen s L k) ∧ Below w9.heap.size w9 (wr.drewN nq) from ⟨HI.out.1.drewN nq, Wd.below_drewN HI.out.2 nq⟩)
      have s1 : (wr.drewN nq).cell? ⟨w9.heap.size, q, none⟩ = some (.bool false) := s0
      have sf1 : (wr.drewN nq).frozen? ⟨w9.heap.size, q, none⟩ = false := RB.out.1.free q
      clear s0 sf t0 y0 p0 d4 HI
      generalize wr.drewN nq = w11 at *
      have R12 := Lib.hid (show Cx.RowB (w11.setCell ⟨w9.heap.size, q, none⟩ (.bool true)) w9.heap.size (Se.seen s L (k + 1)) ∧ Below w9.heap.size w9 (w11.setCell ⟨w9.heap.size, q, none⟩ (.bool true)) from
        ⟨by rw [← Hnx.out]; exact RB.out.1.set q true, RB.out.2.setCell (p := ⟨w9.heap.size, q, none⟩) (Nat.le_refl _) _⟩)
      go_upto_region 20 with fail
      generalize w11.setCell ⟨w9.heap.size, q, none⟩ (.bool true) = w12 at *
      go_cut [18] (fun v wz => v = .bool true ∧ Below w12.heap.size w12 wz)
      case first =>
        have hb : Below w12.heap.size w12 w12.drew := (Below.refl _ _).drew
        have hc : Below w9.heap.size w9 w12.drew := R12.out.2.trans (hb.mono R12.out.2.size)
        have z10 := ZZ.out w12.drew hc
        go_region_held3 (fun W => W.cell? ⟨gb, gf + k, none⟩ = some (.slice A1 n1 c1) ∧ W.cell? ⟨rb, rf + q, none⟩ = some (.slice A2 n2 c2)) (with_reducible first | exact z10) (first
          | (go_at_call 20; (with_reducible refine (Cs.out _ hc).mono ?_); rintro e w13 ⟨rfl, hB13⟩; have hb := hb.trans (hB13.mono hb.size); have hc := hc.trans (hB13.mono hc.size); have z10 := ZZ.out _ hc))
        all_goals (
          go_wp2_with fail
          go_meet
          exact ⟨rfl, hb⟩)
      case rest =>
      obtain ⟨rfl, hbc⟩ := hcut
      have I13 := Lib.hid (show Cx.RowB wc w9.heap.size (Se.seen s L (k + 1)) ∧ Below w9.heap.size w9 wc from ⟨Wd.Bx.below R12.out.1 R12.out.1.lt hbc, R12.out.2.trans (hbc.mono R12.out.2.size)⟩)
      clear hbc ZZ Cs
      go_wp2_with fail
      go_roundw
      case rel => exact ⟨k + 1, by go_num, by omega, I13⟩
      case measure => simp [intOf]; omega
    · have hkI : ¬ (k : Int) < (m : Int) := by omega
      have H10 := Lib.hid (H9.out.below hb9)
      obtain ⟨d0, d1, d2, d3, d4, d5⟩ := Gb.six X.out
      obtain ⟨e0, e1, e2, e3, e4, e5⟩ := Gb.six H10.out.x
      clear hI hb9
      go_wp2_with fail
      go_ret
      exact ⟨by simp, H10.out.b⟩
end Lw
end Go.Proofs.YtoibpbnebcoafaaGreat
