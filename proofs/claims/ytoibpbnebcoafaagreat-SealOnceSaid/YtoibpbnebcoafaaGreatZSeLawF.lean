/- The walk of the statement SealOnce of layer 12. -/
import Derived.Deep.RegionHeld3
import Derived.Deep.DeepCutAuto
import Derived.Deep.QuietTactic
import Derived.BigQuiet
import Derived.WalkLawsBesides
import Derived.Test.YtoibpbnebcoafaaGreatPk50
import Derived.Test.YtoibpbnebcoafaaGreatPk44
import Derived.Test.YtoibpbnebcoafaaGreatPk21
import Derived.Test.YtoibpbnebcoafaaGreatPk40
namespace Go.Proofs.YtoibpbnebcoafaaGreat
set_option maxRecDepth 20000
open Go.RowKit
namespace Lw
open Se
open Va (Vl)
open Sc (Sch MayS FitS tr tr_yes tr_no tr_iff tr_congr)
open Sx (Sb five FewS)
open Wd (Cr Rcd)
open Ssm (ns)
set_option maxHeartbeats 16000000 in
theorem sealOnce_walk (A : Option Addr) (n c : Nat) (s : Sch) (OA : Option Addr) (on oc : Nat) (CA : Option Addr) (cn cc : Nat) (os : List Cr) (x : Seg) (B : Option Addr) (m d : Nat) (l : List Rcd) (w : World) (hS : Wd.Cs w A n c s.cols) (_u : Wd.Sch1 s) (hX : Sg w OA on oc CA cn cc os x) (hR : Wd.Rcs w B m d l) :
    Calls Tryz.prog 7 #[.agg #[.slice A n c, .int .i64 s.key, .int .i64 s.cmp, .int .i64 s.del, .int .i64 s.sort], .agg #[.int .i64 x.part, .int .i64 x.id, .int .i64 x.st, .int .i64 x.en, .slice OA on oc, .slice CA cn cc], .slice B m d] w fun e w' => e = .returned (.bool true) ∧ Below w.heap.size w w' := by
  obtain ⟨w1, hw1⟩ : ∃ w1, w1 = (w.alloc (.cells #[.slice A n c, .int .i64 s.key, .int .i64 s.cmp, .int .i64 s.del, .int .i64 s.sort] 24)).alloc (.cells #[.int .i64 x.part, .int .i64 x.id, .int .i64 x.st, .int .i64 x.en, .slice OA on oc, .slice CA cn cc] 28) := ⟨_, rfl⟩
  have z1 : (w.alloc (.cells #[.slice A n c, .int .i64 s.key, .int .i64 s.cmp, .int .i64 s.del, .int .i64 s.sort] 24)).heap.size = w.heap.size + 1 := by simp
  have H1 : Bm w w1 A n c s OA on oc CA cn cc x := by
    have g1 := Gb.new (w.alloc (.cells #[.slice A n c, .int .i64 s.key, .int .i64 s.cmp, .int .i64 s.del, .int .i64 s.sort] 24)) x.part x.id x.st x.en OA on oc CA cn cc
    rw [z1] at g1
    rw [hw1]
    exact ⟨(Wd.Bx.new w _ _).alloc _, g1, ((Below.refl _ _).alloc (Nat.le_refl _) _).alloc (by simp) _⟩
  have H1 := Lib.hid H1
  have Hw1 := Lib.hid hw1
  have HS := Lib.hid hS
  have HX := Lib.hid hX
  have HR := Lib.hid hR
  have Hn := Lib.hid hS.len
  have Hm := Lib.hid hR.len
  have Ca := Lib.hid (awake_any w1)
  clear hw1 z1 hX hS hR
  go_enter Tryz.func7, Tryz.ntmps7
  go_upto_region 1 with fail
  rw [← Hw1.out]
  go_wp2_with fail
  refine Ca.out.mono ?_
  rintro e w2 ⟨rfl, hB2⟩
  have H2 := Lib.hid (H1.out.below hB2)
  have Cf := Lib.hid (Sx.Few_any A n c s w2 (HS.out.below H2.out.b))
  obtain ⟨v1, hv1⟩ : ∃ v1, v1 = tr (FewS s) := ⟨_, rfl⟩
  rw [← hv1] at Cf
  have Hv1 := Lib.hid hv1
  obtain ⟨c0, c1, c2, c3, c4⟩ := five H2.out.s
  clear hB2 Ca hv1
  go_wp2_with fail
  refine Cf.out.mono ?_
  rintro e w3 ⟨rfl, hB3⟩
  have H3 := Lib.hid (H2.out.below hB3)
  clear hB3 c0 c1 c2 c3 c4 Cf
  cases v1
  case false =>
    go_wp2_with fail
    go_ret
    exact ⟨rfl, H3.out.b⟩
  have hfew := (tr_iff (p := FewS s)).1 Hv1.out.symm
  have hn : n ≤ 12 := by have := hfew.1; have := Hn.out; omega
  have Cg := Lib.hid (Rw.few_any B m d l w3 (HR.out.below H3.out.b))
  clear hfew Hv1
  by_cases hQ : Rw.FewR l
  case neg =>
    rw [tr_no hQ] at Cg
    clear hQ
    go_wp2_with fail
    refine Cg.out.mono ?_
    rintro e w4 ⟨rfl, e4⟩
    subst e4
    go_wp2_with fail
    go_ret
    exact ⟨rfl, H3.out.b⟩
  rw [if_pos (tr_yes hQ)] at Cg
  have hm : m ≤ 60 := by have := hQ.1; have := Hm.out; omega
  have HQ := Lib.hid hQ
  clear hQ
  go_wp2_with fail
  refine Cg.out.mono ?_
  rintro e w4 ⟨rfl, e4⟩
  subst e4
  have Cp := Lib.hid (parted_any B m d l w4 (HR.out.below H3.out.b) (by omega))
  clear Cg
  go_wp2_with fail
  refine Cp.out.mono ?_
  rintro e w5 ⟨RA, rc, QA, qc, rfl, hL5, hQ5, hB5⟩
  rw [← Hm.out] at hL5 hQ5 ⊢
  have H5 := Lib.hid (H3.out.below hB5)
  have HL := Lib.hid hL5
  have HO := Lib.hid hQ5
  clear hL5 hQ5 hB5 Cp H3
  have HF := Lib.hid (fits_ofs HR.out)
  have Hrl := Lib.hid (show (rws l).length = m by rw [rws_len]; exact Hm.out.symm)
  clear HR HQ
  obtain ⟨L, hL⟩ : ∃ L, L = rws l := ⟨_, rfl⟩
  obtain ⟨P, hP⟩ : ∃ P, P = ofs l := ⟨_, rfl⟩
  rw [← hL] at HL Hrl
  rw [← hP] at HO HF
  clear hL hP
  obtain ⟨c0, c1, c2, c3, c4⟩ := five H5.out.s
  obtain ⟨d0, d1, d2, d3, d4, d5⟩ := Gb.six H5.out.x
  by_cases hA : Arg s x L P
  case neg =>
    have Cb := Lib.hid (build_no A n c s OA on oc CA cn cc os x RA m rc L QA m qc P w5 (HS.out.below H5.out.b) (HX.out.below H5.out.b) HL.out HO.out HF.out hn hm hA)
    clear hA
    go_wp2_with fail
    refine Cb.out.mono ?_
    rintro e w6 ⟨YA, yc, DA, dn, dc, TA, tc, rfl, hB6⟩
    have H6 := Lib.hid (H5.out.below hB6)
    clear hB6 c0 c1 c2 c3 c4 d0 d1 d2 d3 d4 d5 Cb
    go_wp2_with fail
    go_ret
    exact ⟨rfl, H6.out.b.alloc H6.out.b.size _⟩
  have Cb := Lib.hid (build_yes A n c s OA on oc CA cn cc os x RA m rc L QA m qc P w5 (HS.out.below H5.out.b) (HX.out.below H5.out.b) HL.out HO.out HF.out hn hm hA)
  have HA := Lib.hid hA
  clear hA
  go_wp2_with fail
  refine Cb.out.mono ?_
  rintro e w6 ⟨YA, yc, DA, dn, dc, ys, TA, tc, rfl, hX6, hT6, hB6, hlt6, hdn6⟩
  have al7 := (Below.refl w6.heap.size w6).alloc (Nat.le_refl _) (.cells #[.int .i64 x.part, .int .i64 x.id, .int .i64 x.st, .int .i64 x.en, .slice YA m yc, .slice DA dn dc] 28)
  have x7 := Gb.new w6 x.part x.id x.st x.en YA m yc DA dn dc
  obtain ⟨w7, hw7⟩ : ∃ w7, w7 = w6.alloc (.cells #[.int .i64 x.part, .int .i64 x.id, .int .i64 x.st, .int .i64 x.en, .slice YA m yc, .slice DA dn dc] 28) := ⟨_, rfl⟩
  rw [← hw7] at al7 x7
  have B57 := hB6.trans (al7.mono hB6.size)
  have H7 := Lib.hid (H5.out.below B57)
  have X7 := Lib.hid x7
  have HY7 := Lib.hid (hX6.below al7)
  have HT7 := Lib.hid (hT6.below al7)
  have HL7 := Lib.hid (HL.out.below B57)
  have HO7 := Lib.hid (HO.out.below B57)
  have Hlt := Lib.hid hlt6
  have Hw7 := Lib.hid hw7
  have Cr := Lib.hid (rows_sealed HY7.out hlt6 hdn6 hm HA.out.1)
  clear hB6 al7 x7 hw7 hX6 hT6 B57 hlt6 Cb c0 c1 c2 c3 c4 d0 d1 d2 d3 d4 d5 HL HO
  go_upto_region 7 with fail
  rw [← Hw7.out]
  obtain ⟨d0, d1, d2, d3, d4, d5⟩ := Gb.six X7.out
  go_wp2_with fail
  refine Cr.out.mono ?_
  rintro e w8 ⟨GA, gc, rfl, hG8, hB8⟩
  have H8 := Lib.hid (H7.out.below hB8)
  have X8 := Lib.hid (X7.out.below X7.out.lt hB8)
  have HY8 := Lib.hid (HY7.out.below hB8)
  have HO8 := Lib.hid (HO7.out.below hB8)
  have HG8 := Lib.hid hG8
  have hgcap := hG8.cap
  have hgmax := hG8.max
  unfold maxLen at hgmax
  clear hB8 hG8 Cr d0 d1 d2 d3 d4 d5 H7 X7 HY7 HT7 HL7 HO7
  obtain ⟨j0, hj, gz0, gz1, gz2⟩ := info_parts Wd.info_vs
  obtain ⟨zv, hzv⟩ : ∃ zv : Array Value, zv = (List.replicate m (Value.slice none 0 0)).toArray := ⟨_, rfl⟩
  have hmv : ∀ X : World, (Instr.makeSlice 33 (.int .i64 (m : Int)) (.int .i64 (m : Int))).run Tryz.prog X = .ok (.slice (some ⟨X.heap.size, 0, none⟩) m m) (X.alloc (.cells zv 45)) := fun X => by
    have := run_make (P := Tryz.prog) X 33 45 j0 _ Tryz.underlying33 hj gz0 .i64 .i64 (m : Int) (m : Int) (by omega) (by omega) (by rw [gz2]; omega) (by omega)
    rw [this, hzv, gz1, Int.toNat_natCast, ← made_sl]
  have rowv : Wd.Bx (w8.alloc (.cells zv 45)) w8.heap.size 45 (List.replicate m (Value.slice none 0 0)).toArray := by rw [hzv]; exact Wd.Bx.new w8 _ _
  have hrep : Wd.Hv (w8.alloc (.cells zv 45)) (List.replicate m (Value.slice none 0 0)) (back s L 0 0) := by rw [back_zero, Hrl.out]; exact hv_rep _ m
  have R0 := Lib.hid (show ∃ vs : List Value, Wd.Bx (w8.alloc (.cells zv 45)) w8.heap.size 45 vs.toArray ∧ Wd.Hv (w8.alloc (.cells zv 45)) vs (back s L 0 0) ∧ Below w8.heap.size w8 (w8.alloc (.cells zv 45)) from ⟨_, rowv, hrep, (Below.refl w8.heap.size w8).alloc (Nat.le_refl _) (.cells zv 45)⟩)
  clear hzv rowv hrep hj gz0 gz1 gz2
  go_wp2_with fail
  clear hmv
  generalize w8.alloc (.cells zv 45) = w10 at *
  go_loopw [16] (fun i wr => ∃ k : Nat, i = .int .i64 k ∧ k ≤ m ∧ Hid (∃ vs : List Value, Wd.Bx wr w8.heap.size 45 vs.toArray ∧ Wd.Hv wr vs (back s L k 0) ∧ Below w8.heap.size w8 wr)) (fun i _ => m - (intOf i).toNat)
  case atStart => exact ⟨0, rfl, Nat.zero_le _, R0⟩
  case round =>
    obtain ⟨k, rfl, hk, hI⟩ := hrel
    clear R0
    obtain ⟨vs0, hbx0, hv0, hb8⟩ := hI.out
    have X := Lib.hid (X8.out.below X8.out.lt hb8)
    have d4 := (Gb.six X.out).2.2.2.2.1
    by_cases hlt : k < m
    · have hkI : (k : Int) < (m : Int) := by omega
      have J0 := Lib.hid (show ∃ vs : List Value, Wd.Bx wr w8.heap.size 45 vs.toArray ∧ Wd.Hv wr vs (back s L k 0) ∧ Below w8.heap.size w8 wr from ⟨vs0, hbx0, hv0, hb8⟩)
      have hkL : k < L.length := by rw [Hrl.out]; exact hlt
      obtain ⟨yb, yf, hYA, hyb, y0⟩ := HY8.out.offs.rd k (by rw [sealed_offs_len]; exact hkL)
      subst hYA
      obtain ⟨zk, hzk⟩ : ∃ zk, zk = (sealed s x L P).offs.getD k 0 := ⟨_, rfl⟩
      rw [← hzk] at y0
      obtain ⟨gb, gf, A1, n1, c1, hGA, _, g0, hV1⟩ := HG8.out.at_ k (by rw [srow_len]; exact hkL)
      subst hGA
      rw [srow_get hkL] at hV1
      have bk : ∀ {W : World} {a : Addr} {v : Value}, Below w8.heap.size w8 W → w8.cell? a = some v → W.cell? a = some v := fun {W a v} hb hc => (hb.cell (World.block_lt_of_cell? w8 a hc)).trans hc
      have x4 := (Gb.six X8.out).2.2.2.2.1
      have YZ := Lib.hid (fun W (hb : Below w8.heap.size w8 W) => (show W.cell? ⟨w6.heap.size, 4, none⟩ = some (.slice (some ⟨yb, yf, none⟩) m yc) ∧ W.cell? ⟨yb, yf + k, none⟩ = some (.int .i64 zk) from ⟨bk hb x4, bk hb y0⟩))
      have GZ := Lib.hid (fun W (hb : Below w8.heap.size w8 W) => (show W.cell? ⟨gb, gf + k, none⟩ = some (.slice A1 n1 c1) ∧ Wd.Vs W A1 n1 c1 (L.getD (at_ s L k) []) from ⟨bk hb g0, hV1.below hb⟩))
      have He := Lib.hid (fun q (hq : q < m) => (show P.getD q 0 = zk ↔ q = at_ s L k by rw [hzk]; exact offs_eq HA.out hkL (by rw [Hrl.out]; exact hq)))
      have Ht := Lib.hid (show back s L k m = back s L (k + 1) 0 by have := back_turn (s := s) hkL; rw [Hrl.out] at this; exact this)
      clear hI vs0 hbx0 hv0 hb8 y0 hzk g0 hV1 bk x4 hkL hyb X d4
      rename World => wo
      have X := Lib.hid (X8.out.below X8.out.lt J0.out.choose_spec.2.2)
      have d4 := (Gb.six X.out).2.2.2.2.1
      go_wp2_with fail
      clear d4 X
      go_loopw [17] (fun u wr => ∃ q : Nat, u = .int .i64 q ∧ q ≤ m ∧ Hid (∃ vs : List Value, Wd.Bx wr w8.heap.size 45 vs.toArray ∧ Wd.Hv wr vs (back s L k q) ∧ Below w8.heap.size w8 wr)) (fun u _ => m - (intOf u).toNat)
      case atStart => exact ⟨0, rfl, Nat.zero_le _, J0⟩
      case round =>
        clear J0
        obtain ⟨q, rfl, hq, hJ⟩ := hrel
        obtain ⟨vs, hbx, hv, hb8⟩ := hJ.out
        by_cases hqt : q < m
        · have hqI : (q : Int) < (m : Int) := by omega
          obtain ⟨d4, y0⟩ := YZ.out wr hb8
          obtain ⟨qb, qf, hQA, _, p0⟩ := (HO8.out.below hb8).rd q (by rw [← HO8.out.len]; exact hqt)
          subst hQA
          obtain ⟨zq, hzq⟩ : ∃ zq, zq = P.getD q 0 := ⟨_, rfl⟩
          have he := He.out q hqt
          rw [← hzq] at p0 he
          have J1 := Lib.hid (And.intro hbx (And.intro hv hb8))
          clear hJ hbx hv hb8 hzq
          by_cases e : zq = zk
          case neg =>
            have t : (zq == zk) = false := by simpa using e
            have hs := back_same (s := s) (l := L) (i := k) (q := q) fun z => e (he.2 z)
            have J2 := Lib.hid hs
            clear e he hs
            go_wp2_with fail
            go_quiet (fail)
            go_wp2_with fail
            go_roundw
            case rel => exact ⟨q + 1, by go_num, by omega, Lib.hid ⟨vs, Wd.Bx.below J1.out.1 J1.out.1.lt (Wd.below_drewN (Below.refl _ _) _), by rw [J2.out]; exact J1.out.2.1.below (Wd.below_drewN (Below.refl _ _) _), Wd.below_drewN J1.out.2.2 _⟩⟩
            case measure => simp [intOf]; omega
          have t : (zq == zk) = true := by simpa using e
          have hqa := he.1 e
          have t2 : decide (k < m) = true := decide_eq_true hlt
          have t3 : decide ((k : Int) < (m : Int)) = true := decide_eq_true hkI
          have Hqa := Lib.hid hqa
          clear e he hqa
          go_wp2_with fail
          go_quiet (fail)
          have K := Lib.hid (show Wd.Bx (wr.drewN nq) w8.heap.size 45 vs.toArray ∧ Wd.Hv (wr.drewN nq) vs (back s L k q) ∧ Below w8.heap.size w8 (wr.drewN nq) from ⟨Wd.Bx.below J1.out.1 J1.out.1.lt (Wd.below_drewN (Below.refl _ _) _), J1.out.2.1.below (Wd.below_drewN (Below.refl _ _) _), Wd.below_drewN J1.out.2.2 _⟩)
          clear d4 y0 p0 t t2 t3 J1
          generalize wr.drewN nq = w11 at *
          obtain ⟨g1, hV1⟩ := GZ.out w11 K.out.2.2
          have hqv : q < vs.length := by rw [K.out.2.1.1, back_len, Hrl.out]; exact hqt
          have hc5 := K.out.1.cell q
          rw [List.getElem?_toArray, List.getElem?_eq_getElem hqv] at hc5
          have hf5 := K.out.1.free q
          obtain ⟨q1, q2⟩ := hv_store (k := q) K.out.1 K.out.2.1 hV1
          have hnx := back_next (s := s) (l := L) (i := k) (q := q) Hqa.out
          rw [← Hqa.out, hnx] at q2
          have R6 := Lib.hid (And.intro q1 (And.intro q2 (K.out.2.2.setCell (p := ⟨w8.heap.size, q, none⟩) (Nat.le_refl _) (.slice A1 n1 c1))))
          generalize vs[q] = u at hc5
          clear q1 q2 hnx hqv hV1 K
          go_wp2_with fail
          go_roundw
          case rel => exact ⟨q + 1, by go_num, by omega, Lib.hid ⟨_, R6.out⟩⟩
          case measure => simp [intOf]; omega
        · have hqI : ¬ (q : Int) < (m : Int) := by omega
          obtain rfl : q = m := by omega
          have J1 := Lib.hid (show ∃ vs : List Value, Wd.Bx wr w8.heap.size 45 vs.toArray ∧ Wd.Hv wr vs (back s L (k + 1) 0) ∧ Below w8.heap.size w8 wr from ⟨vs, hbx, by rw [← Ht.out]; exact hv, hb8⟩)
          clear hJ hbx hv hb8
          go_wp2_with fail
          go_roundw
          case rel => exact ⟨k + 1, by go_num, by omega, J1⟩
          case measure => simp [intOf]; omega
    · have hkI : ¬ (k : Int) < (m : Int) := by omega
      obtain rfl : k = m := by omega
      have e : back s L k 0 = L := by
        have := back_all (s := s) (l := L)
        rw [Hrl.out] at this
        exact this
      rw [e] at hv0
      have hL := Wd.Ls.of_bx hbx0 hv0 k Hrl.out.symm (by unfold maxLen; omega)
      have H10 := Lib.hid (H8.out.below hb8)
      have Cz := Lib.hid (build_yes A n c s OA on oc CA cn cc os x (some ⟨w8.heap.size, 0, none⟩) k k L QA k qc P wr (HS.out.below H10.out.b) (HX.out.below H10.out.b) hL (HO8.out.below hb8) HF.out hn hm HA.out)
      have HY10 := Lib.hid (HY8.out.below hb8)
      obtain ⟨c0, c1, c2, c3, c4⟩ := five H10.out.s
      obtain ⟨e0, e1, e2, e3, e4, e5⟩ := Gb.six H10.out.x
      clear hI e hL hbx0 hv0 hb8
      go_wp2_with fail
      refine Cz.out.mono ?_
      rintro e w11 ⟨ZA, zc, EA, en, ec, zs, UA, uc, rfl, hX11, _, hB11, _, _⟩
      have al12 := (Below.refl w11.heap.size w11).alloc (Nat.le_refl _) (.cells #[.int .i64 x.part, .int .i64 x.id, .int .i64 x.st, .int .i64 x.en, .slice ZA k zc, .slice EA en ec] 28)
      have x12 := Gb.new w11 x.part x.id x.st x.en ZA k zc EA en ec
      obtain ⟨w12, hw12⟩ : ∃ w12, w12 = w11.alloc (.cells #[.int .i64 x.part, .int .i64 x.id, .int .i64 x.st, .int .i64 x.en, .slice ZA k zc, .slice EA en ec] 28) := ⟨_, rfl⟩
      rw [← hw12] at al12 x12
      have B12 := hB11.trans (al12.mono hB11.size)
      have H12 := Lib.hid (H10.out.below B12)
      have X12 := Lib.hid x12
      have Y12 := Lib.hid (X.out.below X.out.lt B12)
      have Cs := Lib.hid (same_sealed (HY10.out.below B12) (hX11.below al12))
      have Hw12 := Lib.hid hw12
      clear hB11 al12 x12 hw12 hX11 B12 Cz c0 c1 c2 c3 c4 e0 e1 e2 e3 e4 e5 d4 X
      go_upto_region 20 with fail
      rw [← Hw12.out]
      obtain ⟨d0, d1, d2, d3, d4, d5⟩ := Gb.six Y12.out
      obtain ⟨e0, e1, e2, e3, e4, e5⟩ := Gb.six X12.out
      go_wp2_with fail
      refine Cs.out.mono ?_
      rintro e w13 ⟨rfl, hB13⟩
      have H13 := Lib.hid (H12.out.below hB13)
      clear hB13 Cs d0 d1 d2 d3 d4 d5 e0 e1 e2 e3 e4 e5
      go_wp2_with fail
      go_ret
      exact ⟨rfl, H13.out.b⟩
end Lw
end Go.Proofs.YtoibpbnebcoafaaGreat
