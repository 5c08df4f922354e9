/- What the reference's Fits, Few and Light do, and the reference of layer 6's Same. -/
import Derived.Test.YtdmgjeipkpbojaaDoorScRefMay
import Derived.Test.YtdmgjeipkpbojaaDoorScFits
namespace Go.Proofs.YtdmgjeipkpbojaaDoor
set_option maxRecDepth 20000
open Go.RowKit
namespace Sx
open Sc (Col Sch tr tr_yes tr_no MayS FitS fits_get fit1 fit1_iff Ok)
open Va (Vl May)
theorem and5 {w : World} {g0 : Nat} {y0 y1 y2 y3 y4 : Value} {w' : World}
    (h : w.cell? ⟨g0, 0, none⟩ = some y0 ∧ w.cell? ⟨g0, 1, none⟩ = some y1 ∧ w.cell? ⟨g0, 2, none⟩ = some y2 ∧ w.cell? ⟨g0, 3, none⟩ = some y3 ∧ w.cell? ⟨g0, 4, none⟩ = some y4) (hb : Below w.heap.size w w') (hG : g0 < w.heap.size) :
    w'.cell? ⟨g0, 0, none⟩ = some y0 ∧ w'.cell? ⟨g0, 1, none⟩ = some y1 ∧ w'.cell? ⟨g0, 2, none⟩ = some y2 ∧ w'.cell? ⟨g0, 3, none⟩ = some y3 ∧ w'.cell? ⟨g0, 4, none⟩ = some y4 :=
  ⟨(hb.cell (p := ⟨g0, 0, none⟩) hG).trans h.1, (hb.cell (p := ⟨g0, 1, none⟩) hG).trans h.2.1, (hb.cell (p := ⟨g0, 2, none⟩) hG).trans h.2.2.1, (hb.cell (p := ⟨g0, 3, none⟩) hG).trans h.2.2.2.1, (hb.cell (p := ⟨g0, 4, none⟩) hG).trans h.2.2.2.2⟩
set_option maxHeartbeats 4000000 in
theorem refFits_any (A : Option Addr) (n c : Nat) (s : Sch) (R : Option Addr) (m d : Nat) (vs : List Vl) (w : World) (hS : Wd.Cs w A n c s.cols) (hV : Wd.Vs w R m d vs) (hn : n ≤ 1000000) :
    Calls Tryd.prog 19 #[.agg #[.slice A n c, .int .i64 s.key, .int .i64 s.cmp, .int .i64 s.del, .int .i64 s.sort], .slice R m d] w fun e w' => e = .returned (.bool (tr (FitS s vs))) ∧ Below w.heap.size w w' := by
  have hb0 := (Below.refl w.heap.size w).alloc (Nat.le_refl _) (.cells #[.slice A n c, .int .i64 s.key, .int .i64 s.cmp, .int .i64 s.del, .int .i64 s.sort] 24)
  have s0 : Sb (w.alloc (.cells #[.slice A n c, .int .i64 s.key, .int .i64 s.cmp, .int .i64 s.del, .int .i64 s.sort] 24)) w.heap.size A n c s.key s.cmp s.del s.sort := Wd.Bx.new w _ _
  have Cm := Lib.hid (refMayS_any A n c s _ (hS.below hb0) hn)
  have Hl := Lib.hid hS.len
  have Hm := Lib.hid hV.len
  have HS := Lib.hid (hS.below hb0)
  have HV := Lib.hid (hV.below hb0)
  have hcap := hS.cap
  have hcapd := hV.cap
  obtain ⟨r, hr⟩ : ∃ r, r = tr (FitS s vs) := ⟨_, rfl⟩
  rw [← hr]
  have Hr := Lib.hid hr
  clear hr hS hV
  by_cases hM : MayS s
  case neg =>
    have e : r = false := by rw [Hr.out]; exact tr_no fun h => hM h.1
    rw [tr_no hM] at Cm
    subst e
    clear hM
    go_enter Tryd.func19, Tryd.ntmps19
    go_wp2_with fail
    refine Cm.out.mono ?_
    rintro e w1 ⟨rfl, hB1⟩
    go_wp2_with fail
    go_ret
    exact ⟨rfl, hb0.trans (hB1.mono hb0.size)⟩
  rw [tr_yes hM] at Cm
  have HM := Lib.hid hM
  clear hM
  have s0' := Lib.hid s0
  clear s0
  by_cases hmn : m = n
  case neg =>
    have e : r = false := by rw [Hr.out]; exact tr_no fun h => hmn (by have := Sc.fits_len h.2; rw [Hm.out, Hl.out]; exact this)
    subst e
    have qm : ((m : Int) != (n : Int)) = true := by simp; omega
    clear hmn
    go_enter Tryd.func19, Tryd.ntmps19
    go_wp2_with fail
    refine Cm.out.mono ?_
    rintro e w1 ⟨rfl, hB1⟩
    generalize w.alloc (.cells #[.slice A n c, .int .i64 s.key, .int .i64 s.cmp, .int .i64 s.del, .int .i64 s.sort] 24) = wa at *
    obtain ⟨p0, p1, p2, p3, p4⟩ := five (s0'.out.below (Wd.Bx.lt s0'.out) hB1)
    go_wp2_with fail
    go_ret
    exact ⟨rfl, hb0.trans (hB1.mono hb0.size)⟩
  subst hmn
  go_enter Tryd.func19, Tryd.ntmps19
  go_wp2_with fail
  refine Cm.out.mono ?_
  rintro e w1 ⟨rfl, hB1⟩
  generalize w.alloc (.cells #[.slice A m c, .int .i64 s.key, .int .i64 s.cmp, .int .i64 s.del, .int .i64 s.sort] 24) = wa at *
  have s1 := s0'.out.below (Wd.Bx.lt s0'.out) hB1
  have hb1 := hb0.trans (hB1.mono hb0.size)
  have HS1 := Lib.hid (HS.out.below hB1)
  have HV1 := Lib.hid (HV.out.below hB1)
  have hg1 := Wd.Bx.lt s1
  obtain ⟨p0, p1, p2, p3, p4⟩ := five s1
  have Hp := Lib.hid (five s1)
  go_wp2
  clear p0 p1 p2 p3 p4
  go_loopw [6] (fun i wr => ∃ k : Nat, i = .int .i64 k ∧ k ≤ m ∧ Hid (∀ j, j < k → fit1 (s.cols.getD j default) (vs.getD j default)) ∧ Below w1.heap.size w1 wr) (fun i _ => m - (intOf i).toNat)
  case atStart => exact ⟨0, rfl, Nat.zero_le _, Lib.hid (fun j hj => by omega), Below.refl _ _⟩
  case round =>
    obtain ⟨k, rfl, hk, hf, hB⟩ := hrel
    have hbr := hb1.trans (hB.mono hb1.size)
    have hZ := hB.size
    by_cases hlt : k < m
    · obtain ⟨b, o, hA, hbB, c0, c1, c2, _⟩ := (HS1.out.below hB).cells (j := k) (by rw [← Hl.out]; exact hlt) rfl
      subst hA
      obtain ⟨x, hx⟩ : ∃ x, x = s.cols.getD k default := ⟨_, rfl⟩
      rw [← hx] at c0 c1 c2
      have Hx := Lib.hid hx
      obtain ⟨e, f, hR, heB, d0, d1, d2, d3, hv1⟩ := (HV1.out.below hB).cells (j := k) (by rw [← Hm.out]; exact hlt) rfl
      subst hR
      obtain ⟨v, hv⟩ : ∃ v, v = vs.getD k default := ⟨_, rfl⟩
      rw [← hv] at d0 d1 d2 d3 hv1
      have Hv := Lib.hid hv
      have bad : ¬ fit1 x v → r = false := fun h => by
        rw [Hr.out]
        exact tr_no fun q => h (by
          have := ((fits_get _ _).1 q.2).2 k (by rw [← Hl.out]; exact hlt)
          rw [Hx.out, Hv.out]; exact this)
      clear hx hv
      obtain ⟨xs, xk, xb⟩ := x
      obtain ⟨k1, i1, t1, b1⟩ := v
      simp only [] at c0 c1 c2 d0 d1 d2 d3 hv1 bad
      have Cv := Lib.hid fun w => Vc.refMay_any k1 i1 t1 b1 w
      have hfi : fit1 ⟨xs, xk, xb⟩ ⟨k1, i1, t1, b1⟩ ↔ Vc.mayB k1 i1 t1 b1 = true ∧ ¬ ((k1 != xk) = true ∧ ¬ (xb = true ∧ (k1 == 0) = true)) := by
        rw [Vc.mayB_iff]
        constructor
        · intro h
          exact ⟨h.1.1, by have := (fit1_iff _ _ h.1).1 h; simpa using this⟩
        · rintro ⟨h1, h2⟩
          exact (fit1_iff _ _ (ok_of h1 hv1)).2 (by simpa using h2)
      have Hfi := Lib.hid hfi
      have Hbad := Lib.hid bad
      clear hfi bad
      obtain ⟨ok, hok⟩ : ∃ ok, ok = Vc.mayB k1 i1 t1 b1 := ⟨_, rfl⟩
      obtain ⟨zn, hzn⟩ : ∃ zn, (k1 == 0) = zn := ⟨_, rfl⟩
      obtain ⟨ne, hne⟩ : ∃ ne, (k1 != xk) = ne := ⟨_, rfl⟩
      rw [← hok, hzn, hne] at Hfi
      rw [← hok] at Cv
      clear hok
      go_wp2_with fail
      refine (Cv.out wr).mono ?_
      rintro q w2 ⟨rfl, hB2⟩
      have hw2 := hB.trans (hB2.mono hZ)
      have c1' := (hB2.cell (p := ⟨b, o + k * 3 + 1, none⟩) hbB).trans c1
      have c2' := (hB2.cell (p := ⟨b, o + k * 3 + 2, none⟩) hbB).trans c2
      have d0' := (hB2.cell (p := ⟨e, f + k * 4, none⟩) heB).trans d0
      obtain ⟨p0, p1, p2, p3, p4⟩ := and5 Hp.out hw2 hg1
      clear c0 c1 c2 d0 d1 d2 d3
      cases zn <;> cases xb <;> cases ne <;> cases ok
      all_goals (
        go_wp2_with fail
        go_quiet (fail)
        go_wp2_with fail
        first
          | (go_ret
             exact ⟨by rw [Hbad.out (fun h => by have := Hfi.out.1 h; simp at this)]; rfl, hb1.trans ((Wd.below_drewN hw2 _).mono hb1.size)⟩)
          | (go_roundw
             case rel =>
               refine ⟨k + 1, by go_num, by omega, Lib.hid fun j hj => ?_, Wd.below_drewN hw2 _⟩
               by_cases hjk : j = k
               · rw [hjk, ← Hx.out, ← Hv.out]; exact Hfi.out.2 (by simp)
               · exact hf.out j (by omega)
             case measure => simp [intOf]; omega))
    · have hkI : ¬ (k : Int) < m := by omega
      have e : r = true := by
        rw [Hr.out]
        exact tr_yes ⟨HM.out, (fits_get _ _).2 ⟨by rw [← Hm.out, ← Hl.out], fun i hi => hf.out i (by have := Hl.out; omega)⟩⟩
      have He := Lib.hid e
      clear e hf
      go_wp2_with fail
      go_ret
      exact ⟨by rw [He.out]; rfl, hbr⟩
end Sx
end Go.Proofs.YtdmgjeipkpbojaaDoor
