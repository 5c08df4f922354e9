/- What the reference's Encode does. -/
import Derived.Test.YtdmgjeipkpbojaaDoorScEnc
import Derived.Test.YtdmgjeipkpbojaaDoorScRefFits
import Derived.Test.YtdmgjeipkpbojaaDoorVaRefPut
namespace Go.Proofs.YtdmgjeipkpbojaaDoor
set_option maxRecDepth 20000
open Go.RowKit
namespace Sx
open Sc (Col Sch tr tr_yes tr_no fit1 one FitS enc enc_take enc_len fits fits_get)
open Va (Vl May)
set_option maxHeartbeats 4000000 in
theorem refEncode_any (A : Option Addr) (n c : Nat) (s : Sch) (R : Option Addr) (m d : Nat) (vs : List Vl) (w : World) (hS : Wd.Cs w A n c s.cols) (hV : Wd.Vs w R m d vs) (hn : n ≤ 1000000) :
    Calls Tryd.prog 12 #[.agg #[.slice A n c, .int .i64 s.key, .int .i64 s.cmp, .int .i64 s.del, .int .i64 s.sort], .slice R m d] w (Wd.Out2 w .u8 (encL s vs) (encE s vs)) := by
  unfold encL encE
  obtain ⟨i0, hi, hz0', hz1', hz2'⟩ := info_parts Nc.info_u8
  have hb0 := (Below.refl w.heap.size w).alloc (Nat.le_refl _) (.cells #[.slice A n c, .int .i64 s.key, .int .i64 s.cmp, .int .i64 s.del, .int .i64 s.sort] 24)
  have s0 : Sb (w.alloc (.cells #[.slice A n c, .int .i64 s.key, .int .i64 s.cmp, .int .i64 s.del, .int .i64 s.sort] 24)) w.heap.size A n c s.key s.cmp s.del s.sort := Wd.Bx.new w _ _
  have Cm := Lib.hid (refFits_any A n c s R m d vs _ (hS.below hb0) (hV.below hb0) hn)
  have Hl := Lib.hid hS.len
  have Hm := Lib.hid hV.len
  have HS := Lib.hid (hS.below hb0)
  have HV := Lib.hid (hV.below hb0)
  have hcap := hS.cap
  have hcapd := hV.cap
  clear hS hV
  have s0' := Lib.hid s0
  clear s0
  by_cases hF : FitS s vs
  case neg =>
    rw [tr_no hF] at Cm ⊢
    simp only [Bool.false_eq_true, if_false]
    clear hF
    go_enter Tryd.func12, Tryd.ntmps12
    go_wp2_with fail
    refine Cm.out.mono ?_
    rintro e w1 ⟨rfl, hB1⟩
    go_wp2_with fail
    go_ret2
    exact Wd.Out2.err _ _ _ _ (hb0.trans (hB1.mono hb0.size))
  rw [tr_yes hF] at Cm ⊢
  simp only [if_true]
  have HF := Lib.hid hF
  have hmn : m = n := by rw [Hm.out, Hl.out]; exact Sc.fits_len hF.2
  have hn8 : n ≤ 8 := by rw [Hl.out]; exact hF.1.2.1
  obtain ⟨L, hL⟩ : ∃ L, L = enc s.cols vs := ⟨_, rfl⟩
  rw [← hL]
  have HL := Lib.hid hL
  clear hF hL
  subst hmn
  go_enter Tryd.func12, Tryd.ntmps12
  go_wp2_with fail
  refine Cm.out.mono ?_
  rintro e w1 ⟨rfl, hB1⟩
  generalize w.alloc (.cells #[.slice A m c, .int .i64 s.key, .int .i64 s.cmp, .int .i64 s.del, .int .i64 s.sort] 24) = wa at *
  have s1 := s0'.out.below (Wd.Bx.lt s0'.out) hB1
  have hb1 := hb0.trans (hB1.mono hb0.size)
  have hz1 := hb1.size
  have HS1 := Lib.hid (HS.out.below hB1)
  have HV1 := Lib.hid (HV.out.below hB1)
  have hg1 := Wd.Bx.lt s1
  have Hp5 := Lib.hid (five s1)
  go_wp2
  go_loopw [7, 8] (fun bv i wr => ∃ k : Nat, i = .int .i64 k ∧ k ≤ m ∧ wr.ownsRow w1.heap.size 5 1 bv (enc (s.cols.take k) (vs.take k)).length ((enc (s.cols.take k) (vs.take k)).map (Value.int .u8)) ∧ Below w1.heap.size w1 wr) (fun _ i _ => m - (intOf i).toNat)
  case atStart => exact ⟨0, rfl, Nat.zero_le _, World.ownsRow_nil _ _ _ _, Below.refl _ _⟩
  case round =>
    obtain ⟨k, rfl, hk, hO, hB⟩ := hrel
    have hZ := hB.size
    by_cases hlt : k < m
    · obtain ⟨b, o, hA, hbB, c0, c1, c2, _⟩ := (HS1.out.below hB).cells (j := k) (by rw [← Hl.out]; exact hlt) rfl
      subst hA
      obtain ⟨x, hx⟩ : ∃ x, x = s.cols.getD k default := ⟨_, rfl⟩
      rw [← hx] at c0 c1 c2
      obtain ⟨e, f, hR, heB, d0, d1, d2, d3, hv1⟩ := (HV1.out).cells (j := k) (by rw [← Hm.out]; exact hlt) rfl
      subst hR
      obtain ⟨v, hv⟩ : ∃ v, v = vs.getD k default := ⟨_, rfl⟩
      rw [← hv] at d0 d1 d2 d3 hv1
      have hfit : fit1 x v := by rw [hx, hv]; exact ((fits_get _ _).1 HF.out.2).2 k (by rw [← Hl.out]; exact hlt)
      have hlen := take_len k HF.out.2 (by rw [← Hl.out]; exact hn8)
      have Hst := Lib.hid (enc_take s.cols vs k x v (by rw [hx]; exact get_some (by rw [← Hl.out]; exact hlt)) (by rw [hv]; exact get_some (by rw [← Hm.out]; exact hlt)))
      clear hx hv
      obtain ⟨es, hes⟩ : ∃ es, es = enc (s.cols.take k) (vs.take k) := ⟨_, rfl⟩
      rw [← hes] at hO hlen Hst
      clear hes
      obtain ⟨xs, xk, xb⟩ := x
      obtain ⟨k1, i1, t1, b1⟩ := v
      simp only [] at c0 c1 c2 d0 d1 d2 d3
      have hM := hfit.1
      have Hq := Lib.hid fun w => Vc.refPutV_any k1 i1 t1 b1 w hM.2.1 hM.2.2
      rw [show Vc.putR k1 i1 t1 b1 = Va.put ⟨k1, i1, t1, b1⟩ by unfold Vc.putR; rw [(Vc.mayB_iff k1 i1 t1 b1).2 hM.1]; rfl] at Hq
      have hpl := Va.put_len hM.1
      have hone : one ⟨xs, xk, xb⟩ ⟨k1, i1, t1, b1⟩ = if xb = true then (if k1 = 0 then [0] else 1 :: Va.put ⟨k1, i1, t1, b1⟩) else Va.put ⟨k1, i1, t1, b1⟩ := rfl
      rw [hone] at Hst
      generalize Va.put ⟨k1, i1, t1, b1⟩ = pl at Hq hpl Hst
      clear hone hfit hM hv1
      obtain ⟨p0, p1, p2, p3, p4⟩ := and5 Hp5.out hB hg1
      obtain ⟨z3, z4, z5, z6⟩ : wr.cell? ⟨e, f + k * 4, none⟩ = some (.int .i64 k1) ∧ wr.cell? ⟨e, f + k * 4 + 1, none⟩ = some (.int .i64 i1) ∧ wr.cell? ⟨e, f + k * 4 + 2, none⟩ = some (.string t1) ∧ wr.cell? ⟨e, f + k * 4 + 3, none⟩ = some (.bool b1) :=
        ⟨(hB.cell (p := ⟨e, f + k * 4, none⟩) heB).trans d0, (hB.cell (p := ⟨e, f + k * 4 + 1, none⟩) heB).trans d1, (hB.cell (p := ⟨e, f + k * 4 + 2, none⟩) heB).trans d2, (hB.cell (p := ⟨e, f + k * 4 + 3, none⟩) heB).trans d3⟩
      clear c0 c1
      cases xb
      · rw [if_neg (by simp)] at Hst
        go_wp2_with fail
        refine (Hq.out wr).mono ?_
        rintro q w2 ⟨A2, n2, m2, rfl, hS2, hB2⟩
        have hO2 := Wd.own_below hO hB2
        have hz2 := hB2.size
        have hbb2 : Below w1.heap.size w1 w2 := hB.trans (hB2.mono hZ)
        have Hn2 := Lib.hid hS2.len
        have Hr2 := Lib.hid hS2
        clear hS2 hO
        go_wp2_with (at_builtin; refine Wd.wpList_app _ rfl (.tmp 48) (.tmp 49) 29 rfl w1.heap.size 5 i0 _ .u8 1 Tryd.underlying29 hi hz0' hz1' hz2' rfl _ es rfl hO2 w2.heap.size A2 n2 m2 pl rfl Hn2.out Hr2.out.nil Hr2.out.rd (by omega) (by unfold maxLen; omega) (by omega) ?_; intro v4 w4 hO4 hg4; have hb4 : Below w1.heap.size w1 w4 := hbb2.grown hg4 (by omega) fun g hg => (hO2.lt g hg).1; rw [← Hst.out] at hO4)
        go_roundw
        case rel => exact ⟨k + 1, by go_num, by omega, hO4, hb4⟩
        case measure => simp [intOf]; omega
      · rw [if_pos rfl] at Hst
        by_cases hk0 : k1 = 0
        · rw [if_pos hk0] at Hst
          subst hk0
          go_wp2_with (at_builtin; refine Wd.wpList_app _ rfl (.tmp 34) (.tmp 35) 29 rfl w1.heap.size 5 i0 _ .u8 1 Tryd.underlying29 hi hz0' hz1' hz2' rfl _ es rfl (hO.alloc _) (wr.heap.size + 1) (some ⟨wr.heap.size, 0, none⟩) 1 1 [0] rfl rfl (by simp) (Wd.Rd.lit wr .u8 [0] 5 _ rfl) (by simp; omega) (by unfold maxLen; simp; omega) (by simp; omega) ?_; intro v4 w4 hO4 hg4; have hb4 : Below w1.heap.size w1 w4 := (hB.alloc (by omega) _).grown hg4 (by simp; omega) fun g hg => (hO.lt g hg).1; rw [← Hst.out] at hO4)
          go_roundw
          case rel => exact ⟨k + 1, by go_num, by omega, hO4, hb4⟩
          case measure => simp [intOf]; omega
        · rw [if_neg hk0] at Hst
          have qk : (k1 == 0) = false := by simpa using hk0
          clear hk0
          go_wp2_with (at_builtin; refine Wd.wpList_app _ rfl (.tmp 37) (.tmp 38) 29 rfl w1.heap.size 5 i0 _ .u8 1 Tryd.underlying29 hi hz0' hz1' hz2' rfl _ es rfl (hO.alloc _) (wr.heap.size + 1) (some ⟨wr.heap.size, 0, none⟩) 1 1 [1] rfl rfl (by simp) (Wd.Rd.lit wr .u8 [1] 5 _ rfl) (by simp; omega) (by unfold maxLen; simp; omega) (by simp; omega) ?_; intro v4 w4 hO4 hg4; have hb4 : Below w1.heap.size w1 w4 := (hB.alloc (by omega) _).grown hg4 (by simp; omega) fun g hg => (hO.lt g hg).1; have y3 := (hb4.cell (p := ⟨e, f + k * 4, none⟩) heB).trans d0; have y4 := (hb4.cell (p := ⟨e, f + k * 4 + 1, none⟩) heB).trans d1; have y5 := (hb4.cell (p := ⟨e, f + k * 4 + 2, none⟩) heB).trans d2; have y6 := (hb4.cell (p := ⟨e, f + k * 4 + 3, none⟩) heB).trans d3)
          have hz4 := hb4.size
          refine (Hq.out w4).mono ?_
          rintro q w2 ⟨A2, n2, m2, rfl, hS2, hB2⟩
          have hO2 := Wd.own_below hO4 hB2
          have hz2 := hB2.size
          have hbb2 : Below w1.heap.size w1 w2 := hb4.trans (hB2.mono hz4)
          have Hn2 := Lib.hid hS2.len
          have Hr2 := Lib.hid hS2
          clear hS2 hO
          go_wp2_with (at_builtin; refine Wd.wpList_app _ rfl (.tmp 48) (.tmp 49) 29 rfl w1.heap.size 5 i0 _ .u8 1 Tryd.underlying29 hi hz0' hz1' hz2' rfl _ (es ++ [1]) rfl hO2 w2.heap.size A2 n2 m2 pl rfl Hn2.out Hr2.out.nil Hr2.out.rd (by simp; omega) (by unfold maxLen; simp; omega) (by omega) ?_; intro v5 w5 hO5 hg5; have hb5 : Below w1.heap.size w1 w5 := hbb2.grown hg5 (by omega) fun g hg => (hO2.lt g hg).1; rw [List.append_assoc, List.singleton_append, ← Hst.out] at hO5)
          go_roundw
          case rel => exact ⟨k + 1, by go_num, by omega, hO5, hb5⟩
          case measure => simp [intOf]; omega
    · have hkI : ¬ (k : Int) < m := by omega
      rw [List.take_of_length_le (by rw [← Hl.out]; omega), List.take_of_length_le (by rw [← Hm.out]; omega), ← HL.out] at hO
      go_wp2_with fail
      go_ret2
      obtain ⟨A4, n4, c4, rfl, hS4⟩ := Wd.Sl.of_own hO
      exact ⟨A4, n4, c4, rfl, hS4, hb1.trans (hB.mono hz1)⟩
end Sx
end Go.Proofs.YtdmgjeipkpbojaaDoor
