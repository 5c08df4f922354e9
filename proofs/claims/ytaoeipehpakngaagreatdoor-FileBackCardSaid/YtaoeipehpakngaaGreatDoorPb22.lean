/- What the reference's whole and May do. What the reference's Fits, Few and Light do, and the reference of layer 6's Same. What the reference of layer 10 does: Same, Light; few of the statements of layer 10. -/
import Derived.BigRegion
import Derived.BigQuiet
import Derived.Deep.QuietTactic
import Derived.Test.YtaoeipehpakngaaGreatDoorPb09
import Derived.Test.YtaoeipehpakngaaGreatDoorPb10
import Derived.Test.YtaoeipehpakngaaGreatDoorPb11
import Derived.Test.YtaoeipehpakngaaGreatDoorPb06
import Derived.Test.YtaoeipehpakngaaGreatDoorPb12
namespace Go.Proofs.YtaoeipehpakngaaGreatDoor
set_option maxRecDepth 20000
open Go.RowKit
namespace Sx
open Sc (Col Sch nameOk sgn tr tr_yes tr_no MayC MayK MayS mayC_pair mayS_iff findF whole whole1 whole_get whole1_get colOk)
set_option maxHeartbeats 1000000 in
theorem refWhole_any (A : Option Addr) (n c : Nat) (s : Sch) (i : Int) (w : World) (hS : Wd.Cs w A n c s.cols) :
    Calls Tryz.prog 53 #[.agg #[.slice A n c, .int .i64 s.key, .int .i64 s.cmp, .int .i64 s.del, .int .i64 s.sort], .int .i64 i] w fun e w' => e = .returned (.bool (tr (whole s i))) ∧ Below w.heap.size w w' := by
  have hb0 := (Below.refl w.heap.size w).alloc (Nat.le_refl _) (.cells #[.slice A n c, .int .i64 s.key, .int .i64 s.cmp, .int .i64 s.del, .int .i64 s.sort] 24)
  have s0 : Sb (w.alloc (.cells #[.slice A n c, .int .i64 s.key, .int .i64 s.cmp, .int .i64 s.del, .int .i64 s.sort] 24)) w.heap.size A n c s.key s.cmp s.del s.sort := Wd.Bx.new w _ _
  have Hl := Lib.hid hS.len
  have HS := Lib.hid (hS.below hb0)
  have hcap := hS.cap
  clear hS
  by_cases h0 : 0 ≤ i
  · by_cases h1 : i < (n : Int)
    · obtain ⟨k, rfl⟩ : ∃ k : Nat, i = k := ⟨i.toNat, by omega⟩
      obtain ⟨b, o, hA, hbB, c0, c1, c2, _⟩ := HS.out.cells (j := k) (by have := Hl.out; omega) rfl
      subst hA
      obtain ⟨x, hx⟩ : ∃ x, x = s.cols.getD k default := ⟨_, rfl⟩
      rw [← hx] at c0 c1 c2
      have ht : tr (whole s k) = !x.nul := by
        cases q : x.nul
        · exact tr_yes ((whole_get s k).2 ⟨by omega, by rw [← Hl.out]; exact h1, by rw [Int.toNat_natCast, ← hx]; exact q⟩)
        · exact tr_no fun h => by
            have := ((whole_get s k).1 h).2.2
            rw [Int.toNat_natCast, ← hx, q] at this
            cases this
      rw [ht]
      clear ht hx
      generalize x.nul = q at *
      obtain ⟨q0, -, -, -, -⟩ := five s0
      clear s0 c0 c1
      go_enter Tryz.func53, Tryz.ntmps53
      go_wp2_with fail
      go_ret
      exact ⟨rfl, hb0⟩
    · rw [tr_no fun q => h1 (by rw [Hl.out]; exact ((whole_get s i).1 q).2.1)]
      go_enter Tryz.func53, Tryz.ntmps53
      go_wp2_with fail
      go_ret
      exact ⟨rfl, hb0⟩
  · rw [tr_no fun q => h0 ((whole_get s i).1 q).1]
    go_enter Tryz.func53, Tryz.ntmps53
    go_wp2_with fail
    go_ret
    exact ⟨rfl, hb0⟩
set_option maxHeartbeats 4000000 in
theorem refMayS_any (A : Option Addr) (n c : Nat) (s : Sch) (w : World) (hS : Wd.Cs w A n c s.cols) (hn : n ≤ 1000000) :
    Calls Tryz.prog 22 #[.agg #[.slice A n c, .int .i64 s.key, .int .i64 s.cmp, .int .i64 s.del, .int .i64 s.sort]] w fun e w' => e = .returned (.bool (tr (MayS s))) ∧ Below w.heap.size w w' := by
  have hb0 := (Below.refl w.heap.size w).alloc (Nat.le_refl _) (.cells #[.slice A n c, .int .i64 s.key, .int .i64 s.cmp, .int .i64 s.del, .int .i64 s.sort] 24)
  have s0 : Sb (w.alloc (.cells #[.slice A n c, .int .i64 s.key, .int .i64 s.cmp, .int .i64 s.del, .int .i64 s.sort] 24)) w.heap.size A n c s.key s.cmp s.del s.sort := Wd.Bx.new w _ _
  have Hl := Lib.hid hS.len
  have HS := Lib.hid (hS.below hb0)
  have hcap := hS.cap
  have Cw := Lib.hid fun i w' hb => refWhole_any A n c s i w' (hS.below (w' := w') hb)
  have HM := Lib.hid (mayS_iff s)
  have HKb := Lib.hid (Sx.mayK_b s)
  obtain ⟨r, hr⟩ : ∃ r, r = tr (MayS s) := ⟨_, rfl⟩
  rw [← hr]
  have Hr := Lib.hid hr
  clear hr hS
  by_cases h0 : n < 1
  · have e : r = false := by rw [Hr.out]; exact tr_no fun h => by have := ((HM.out).1 h).1.1; have := Hl.out; omega
    subst e
    have q0 : (n : Int) < 1 := by omega
    clear h0
    go_enter Tryz.func22, Tryz.ntmps22
    go_wp2_with fail
    go_ret
    exact ⟨rfl, hb0⟩
  have q0 : ¬ (n : Int) < 1 := by omega
  by_cases h8 : 8 < n
  · have e : r = false := by rw [Hr.out]; exact tr_no fun h => by have := ((HM.out).1 h).1.2.1; have := Hl.out; omega
    subst e
    have q1 : (8 : Int) < (n : Int) := by omega
    clear h0 h8
    go_enter Tryz.func22, Tryz.ntmps22
    go_wp2_with fail
    go_ret
    exact ⟨rfl, hb0⟩
  have q1 : ¬ (8 : Int) < (n : Int) := by omega
  by_cases hs1 : s.sort < -1
  · have e : r = false := by rw [Hr.out]; exact tr_no fun h => by have := ((HM.out).1 h).2.2.1; omega
    subst e
    clear h0 h8
    go_enter Tryz.func22, Tryz.ntmps22
    go_wp2_with fail
    go_ret
    exact ⟨rfl, hb0⟩
  by_cases hs2 : (n : Int) ≤ s.sort
  · have e : r = false := by rw [Hr.out]; exact tr_no fun h => by have := ((HM.out).1 h).2.2.2; have := Hl.out; omega
    subst e
    clear h0 h8
    go_enter Tryz.func22, Tryz.ntmps22
    go_wp2_with fail
    go_ret
    exact ⟨rfl, hb0⟩
  have Hn := Lib.hid (show (1 ≤ n ∧ n ≤ 8) ∧ -1 ≤ s.sort ∧ s.sort < (n : Int) by omega)
  clear h0 h8
  go_enter Tryz.func22, Tryz.ntmps22
  go_wp2
  generalize w.alloc (.cells #[.slice A n c, .int .i64 s.key, .int .i64 s.cmp, .int .i64 s.del, .int .i64 s.sort] 24) = wa at *
  have s0' := Lib.hid s0
  clear s0
  go_loopw [3] (fun i wr => ∃ k : Nat, i = .int .i64 k ∧ k ≤ n ∧ Hid (∀ j, j < k → colOk (s.cols.getD j default) ∧ ∀ q, q < j → (s.cols.getD q default).name ≠ (s.cols.getD j default).name) ∧ Below wa.heap.size wa wr) (fun i _ => n - (intOf i).toNat)
  case atStart => exact ⟨0, rfl, Nat.zero_le _, Lib.hid (fun j hj => by omega), Below.refl _ _⟩
  case round =>
    obtain ⟨k, rfl, hk, hf, hB⟩ := hrel
    have hbr := hb0.trans (hB.mono hb0.size)
    have sr := s0'.out.below (Wd.Bx.lt s0'.out) hB
    obtain ⟨p0, p1, p2, p3, p4⟩ := five sr
    by_cases hlt : k < n
    · obtain ⟨b, o, hA, hbB, c0, c1, c2, _⟩ := (HS.out.below hB).cells (j := k) (by rw [← Hl.out]; exact hlt) rfl
      subst hA
      obtain ⟨x, hx⟩ : ∃ x, x = s.cols.getD k default := ⟨_, rfl⟩
      rw [← hx] at c0 c1 c2
      have Hx := Lib.hid hx
      clear hx
      have hb1 := (Below.refl wr.heap.size wr).alloc (Nat.le_refl _) (.cells #[.string x.name, .int .i64 x.kind, .bool x.nul] 54)
      have x1 : Cb (wr.alloc (.cells #[.string x.name, .int .i64 x.kind, .bool x.nul] 54)) wr.heap.size x.name x.kind x.nul := Wd.Bx.new wr _ _
      have s1 := sr.below (Wd.Bx.lt sr) hb1
      have hZ := hB.size
      clear sr
      go_wp2_with fail
      generalize wr.alloc (.cells #[.string x.name, .int .i64 x.kind, .bool x.nul] 54) = w1 at *
      refine (refName_any x.name w1).mono ?_
      rintro e w2 ⟨rfl, hB2⟩
      have hb2 := hb1.trans (hB2.mono hb1.size)
      have x2 := x1.below (Wd.Bx.lt x1) hB2
      have s2 := s1.below (Wd.Bx.lt s1) hB2
      have hw2 := hB.trans (hb2.mono hZ)
      clear x1 s1 c0 c1 c2 p0 p1 p2 p3 p4
      have bad : ¬ colOk x → r = false := fun h => by
        rw [Hr.out]
        exact tr_no fun q => h (by
          have := (((mayC_pair _).1 ((HM.out).1 q).1).2.2 k (by rw [← Hl.out]; exact hlt)).1
          rw [← Hx.out] at this; exact this)
      obtain ⟨p0, p1, p2, p3, p4⟩ := five s2
      obtain ⟨z0, z1, z2⟩ := three x2
      by_cases hN : nameOk x.name
      · rw [tr_yes hN]
        have HN := Lib.hid hN
        clear hN
        by_cases hK1 : x.kind < 1
        · have e := bad fun h => by have := h.2.1; omega
          have He := Lib.hid e
          clear e bad
          go_wp2_with fail
          go_ret
          exact ⟨by rw [He.out]; rfl, hb0.trans (hw2.mono hb0.size)⟩
        by_cases hK3 : 3 < x.kind
        · have e := bad fun h => by have := h.2.2; omega
          have He := Lib.hid e
          clear e bad
          go_wp2_with fail
          go_ret
          exact ⟨by rw [He.out]; rfl, hb0.trans (hw2.mono hb0.size)⟩
        have HK := Lib.hid (show colOk x from ⟨HN.out, by omega, by omega⟩)
        clear bad
        have s2' := Lib.hid s2
        have x2' := Lib.hid x2
        clear s2 x2
        have hZ2 := hw2.size
        go_wp2
        clear p0 p1 p2 p3 p4 z0 z1 z2
        go_loopw [5] (fun i wq => ∃ q : Nat, i = .int .i64 q ∧ q ≤ k ∧ Hid (∀ j, j < q → (s.cols.getD j default).name ≠ x.name) ∧ Below w2.heap.size w2 wq) (fun i _ => k - (intOf i).toNat)
        case atStart => exact ⟨0, rfl, Nat.zero_le _, Lib.hid (fun j hj => by omega), Below.refl _ _⟩
        case round =>
          obtain ⟨q, rfl, hq, hg, hB3⟩ := hrel
          have hw3 := hw2.trans (hB3.mono hZ2)
          by_cases hlq : q < k
          · have s3 := s2'.out.below (Wd.Bx.lt s2'.out) hB3
            have x3 := x2'.out.below (Wd.Bx.lt x2'.out) hB3
            obtain ⟨b', o', hA', hbB', d0, d1, d2, _⟩ := (HS.out.below hw3).cells (j := q) (by rw [← Hl.out]; omega) rfl
            cases hA'
            obtain ⟨y, hy⟩ : ∃ y, y = s.cols.getD q default := ⟨_, rfl⟩
            rw [← hy] at d0 d1 d2
            have Hy := Lib.hid hy
            clear hy d1 d2
            obtain ⟨p0, p1, p2, p3, p4⟩ := five s3
            obtain ⟨z0, z1, z2⟩ := three x3
            have hqI : (q : Int) < (n : Int) := by omega
            have hqJ : (q : Int) < (k : Int) := by omega
            have he := Vc.list_beq y.name x.name
            by_cases e : y.name = x.name
            · rw [decide_eq_true e] at he
              have He : Hid (r = false) := Lib.hid (by
                rw [Hr.out]
                exact tr_no fun h => (((mayC_pair _).1 ((HM.out).1 h).1).2.2 k (by rw [← Hl.out]; exact hlt)).2 q hlq (by rw [← Hx.out, ← Hy.out]; exact e))
              clear e s3 x3
              go_wp2_with fail
              go_quiet (fail)
              go_wp2_with fail
              go_ret
              exact ⟨by rw [He.out]; rfl, hb0.trans ((Wd.below_drewN hw3 _).mono hb0.size)⟩
            · rw [decide_eq_false e] at he
              have He := Lib.hid e
              clear e s3 x3
              go_wp2_with fail
              go_quiet (fail)
              go_wp2_with fail
              go_roundw
              case rel =>
                refine ⟨q + 1, by go_num, by omega, Lib.hid fun j hj => ?_, Wd.below_drewN hB3 _⟩
                by_cases hjk : j = q
                · rw [hjk, ← Hy.out]; exact He.out
                · exact hg.out j (by omega)
              case measure => simp [intOf]; omega
          · have hqI : ¬ (q : Int) < (k : Int) := by omega
            go_wp2_with fail
            go_roundw
            case rel =>
              refine ⟨k + 1, by go_num, by omega, Lib.hid fun j hj => ?_, hw3⟩
              by_cases hjk : j = k
              · rw [hjk, ← Hx.out]; exact ⟨HK.out, fun j' hj' => hg.out j' (by omega)⟩
              · exact hf.out j (by omega)
            case measure => simp [intOf]; omega
      · rw [tr_no hN]
        have e := bad fun h => hN h.1
        have He := Lib.hid e
        clear e bad hN
        go_wp2_with fail
        go_ret
        exact ⟨by rw [He.out]; rfl, hb0.trans (hw2.mono hb0.size)⟩
    · have hkI : ¬ (k : Int) < n := by omega
      have hM : r = tr (MayK s) := by
        rw [Hr.out]
        refine Sc.tr_congr ⟨fun h => ((HM.out).1 h).2.1, fun h => (HM.out).2 ⟨(mayC_pair _).2 ⟨?_, ?_, fun i hi => hf.out i ?_⟩, h, ?_, ?_⟩⟩
        all_goals (have := Hn.out; have := Hl.out; omega)
      rw [HKb.out] at hM
      have HM' := Lib.hid hM
      clear hM hf
      have sr' := Lib.hid sr
      clear sr
      by_cases hk1 : s.key = -1
      · have qk : (s.key == -1) = true := by simpa using hk1
        have HR := Lib.hid (show r = (s.cmp == -1 && s.del == -1) by rw [HM'.out, if_pos hk1])
        clear hk1 HM' HKb
        by_cases hp : s.cmp = -1
        · have qp : (s.cmp == -1) = true := by simpa using hp
          have HR2 := Lib.hid (show r = (s.del == -1) by rw [HR.out, qp]; rfl)
          clear hp HR
          go_wp2_with fail
          go_ret
          exact ⟨by rw [HR2.out]; rfl, hbr⟩
        · have qp : (s.cmp == -1) = false := by simpa using hp
          have HR2 := Lib.hid (show r = false by rw [HR.out, qp]; rfl)
          clear hp HR
          go_wp2_with fail
          go_ret
          exact ⟨by rw [HR2.out]; rfl, hbr⟩
      · have qk : (s.key == -1) = false := by simpa using hk1
        have HR := Lib.hid (show r = (tr (whole s s.key) && (tr (whole1 s s.cmp 1) && (s.del == -1 || tr (whole1 s s.del 3)))) by rw [HM'.out, if_neg hk1])
        clear hk1 HM' HKb
        go_wp2_with fail
        refine (Cw.out s.key wr hbr).mono ?_
        rintro e w2 ⟨rfl, hB2⟩
        have hb2 := hbr.trans (hB2.mono hbr.size)
        have s2 := sr'.out.below (Wd.Bx.lt sr'.out) hB2
        clear p0 p1 p2 p3 p4
        obtain ⟨p0, p1, p2, p3, p4⟩ := five s2
        generalize tr (whole s s.key) = r1 at *
        cases r1
        · have HR2 := Lib.hid (show r = false from HR.out)
          clear HR
          go_wp2_with fail
          go_ret
          exact ⟨by rw [HR2.out]; rfl, hb2⟩
        have HR1 := Lib.hid (show r = (tr (whole1 s s.cmp 1) && (s.del == -1 || tr (whole1 s s.del 3))) from HR.out)
        clear HR
        go_wp2_with fail
        refine (Cw.out s.cmp w2 hb2).mono ?_
        rintro e w3 ⟨rfl, hB3⟩
        have hb3 := hb2.trans (hB3.mono hb2.size)
        have hw3 := hB.trans ((hB2.trans (hB3.mono hB2.size)).mono hB.size)
        have s3 := s2.below (Wd.Bx.lt s2) hB3
        clear p0 p1 p2 p3 p4
        obtain ⟨p0, p1, p2, p3, p4⟩ := five s3
        by_cases hw : whole s s.cmp
        · rw [tr_yes hw]
          obtain ⟨g0, g1, -⟩ := (whole_get s s.cmp).1 hw
          have g1' : s.cmp < (n : Int) := by rw [Hl.out]; exact g1
          obtain ⟨b, o, hA, hbB, c0, c1, c2, _⟩ := (HS.out.below hw3).cells (j := s.cmp.toNat) (by have := Hl.out; omega) rfl
          subst hA
          have hk1 := whole1_get s s.cmp 1
          obtain ⟨x, hx⟩ : ∃ x, x = (s.cols.getD s.cmp.toNat default).kind := ⟨_, rfl⟩
          rw [← hx] at c1 hk1
          clear hx c0 c2 g1
          by_cases hx1 : x = 1
          · have HR2 := Lib.hid (show r = (s.del == -1 || tr (whole1 s s.del 3)) by rw [HR1.out, tr_yes (hk1.2 ⟨hw, hx1⟩)]; rfl)
            clear hk1 hw HR1
            subst hx1
            by_cases hd : s.del = -1
            · have qd : (s.del == -1) = true := by simpa using hd
              have HR3 := Lib.hid (show r = true by rw [HR2.out, qd]; rfl)
              clear hd HR2
              go_wp2_with fail
              go_ret
              exact ⟨by rw [HR3.out]; rfl, hb3⟩
            · have qd : (s.del == -1) = false := by simpa using hd
              have HR3 := Lib.hid (show r = tr (whole1 s s.del 3) by rw [HR2.out, qd]; rfl)
              clear hd HR2
              go_wp2_with fail
              refine (Cw.out s.del w3 hb3).mono ?_
              rintro e w4 ⟨rfl, hB4⟩
              have hb4 := hb3.trans (hB4.mono hb3.size)
              have hw4 := hw3.trans (hB4.mono hw3.size)
              have s4 := s3.below (Wd.Bx.lt s3) hB4
              clear p0 p1 p2 p3 p4 c1
              obtain ⟨p0, p1, p2, p3, p4⟩ := five s4
              by_cases hw' : whole s s.del
              · rw [tr_yes hw']
                obtain ⟨u0, u1, -⟩ := (whole_get s s.del).1 hw'
                have u1' : s.del < (n : Int) := by rw [Hl.out]; exact u1
                obtain ⟨b', o', hA', hbB', d0, d1, d2, _⟩ := (HS.out.below hw4).cells (j := s.del.toNat) (by have := Hl.out; omega) rfl
                cases hA'
                have hk3 := whole1_get s s.del 3
                obtain ⟨y, hy⟩ : ∃ y, y = (s.cols.getD s.del.toNat default).kind := ⟨_, rfl⟩
                rw [← hy] at d1 hk3
                clear hy d0 d2 u1
                have HR4 := Lib.hid (show r = (y == 3) by
                  rw [HR3.out, Bool.eq_iff_iff, Sc.tr_iff, hk3]
                  simp [hw'])
                clear hk3 hw' HR3
                go_wp2_with fail
                go_ret
                exact ⟨by rw [HR4.out]; rfl, hb4⟩
              · rw [tr_no hw']
                have HR4 := Lib.hid (show r = false by rw [HR3.out]; exact tr_no fun h => hw' ((whole1_get s s.del 3).1 h).1)
                clear hw' HR3
                go_wp2_with fail
                go_ret
                exact ⟨by rw [HR4.out]; rfl, hb4⟩
          · have HR2 := Lib.hid (show r = false by rw [HR1.out, tr_no (fun h => hx1 (hk1.1 h).2)]; rfl)
            have qx : (x != 1) = true := by simpa using hx1
            clear hk1 hw HR1 hx1
            go_wp2_with fail
            go_ret
            exact ⟨by rw [HR2.out]; rfl, hb3⟩
        · rw [tr_no hw]
          have HR2 := Lib.hid (show r = false by rw [HR1.out, tr_no (fun h => hw ((whole1_get s s.cmp 1).1 h).1)]; rfl)
          clear hw HR1
          go_wp2_with fail
          go_ret
          exact ⟨by rw [HR2.out]; rfl, hb3⟩
end Sx
namespace Sx
open Sc (Col Sch tr tr_yes tr_no MayS FitS fits_get fit1 fit1_iff Ok)
open Va (Vl May)
theorem and5 {w : World} {g0 : Nat} {y0 y1 y2 y3 y4 : Value} {w' : World}
    (h : w.cell? ⟨g0, 0, none⟩ = some y0 ∧ w.cell? ⟨g0, 1, none⟩ = some y1 ∧ w.cell? ⟨g0, 2, none⟩ = some y2 ∧ w.cell? ⟨g0, 3, none⟩ = some y3 ∧ w.cell? ⟨g0, 4, none⟩ = some y4) (hb : Below w.heap.size w w') (hG : g0 < w.heap.size) :
    w'.cell? ⟨g0, 0, none⟩ = some y0 ∧ w'.cell? ⟨g0, 1, none⟩ = some y1 ∧ w'.cell? ⟨g0, 2, none⟩ = some y2 ∧ w'.cell? ⟨g0, 3, none⟩ = some y3 ∧ w'.cell? ⟨g0, 4, none⟩ = some y4 :=
  ⟨(hb.cell (p := ⟨g0, 0, none⟩) hG).trans h.1, (hb.cell (p := ⟨g0, 1, none⟩) hG).trans h.2.1, (hb.cell (p := ⟨g0, 2, none⟩) hG).trans h.2.2.1, (hb.cell (p := ⟨g0, 3, none⟩) hG).trans h.2.2.2.1, (hb.cell (p := ⟨g0, 4, none⟩) hG).trans h.2.2.2.2⟩
set_option maxHeartbeats 4000000 in
theorem refFits_any (A : Option Addr) (n c : Nat) (s : Sch) (R : Option Addr) (m d : Nat) (vs : List Vl) (w : World) (hS : Wd.Cs w A n c s.cols) (hV : Wd.Vs w R m d vs) (hn : n ≤ 1000000) :
    Calls Tryz.prog 69 #[.agg #[.slice A n c, .int .i64 s.key, .int .i64 s.cmp, .int .i64 s.del, .int .i64 s.sort], .slice R m d] w fun e w' => e = .returned (.bool (tr (FitS s vs))) ∧ Below w.heap.size w w' := by
  have hb0 := (Below.refl w.heap.size w).alloc (Nat.le_refl _) (.cells #[.slice A n c, .int .i64 s.key, .int .i64 s.cmp, .int .i64 s.del, .int .i64 s.sort] 24)
  have s0 : Sb (w.alloc (.cells #[.slice A n c, .int .i64 s.key, .int .i64 s.cmp, .int .i64 s.del, .int .i64 s.sort] 24)) w.heap.size A n c s.key s.cmp s.del s.sort := Wd.Bx.new w _ _
  have Cm := Lib.hid (refMayS_any A n c s _ (hS.below hb0) hn)
  have Hl := Lib.hid hS.len
  have Hm := Lib.hid hV.len
  have HS := Lib.hid (hS.below hb0)
  have HV := Lib.hid (hV.below hb0)
  have hcap := hS.cap
  have hcapd := hV.cap
  obtain ⟨r, hr⟩ : ∃ r, r = tr (FitS s vs) := ⟨_, rfl⟩
  rw [← hr]
  have Hr := Lib.hid hr
  clear hr hS hV
  by_cases hM : MayS s
  case neg =>
    have e : r = false := by rw [Hr.out]; exact tr_no fun h => hM h.1
    rw [tr_no hM] at Cm
    subst e
    clear hM
    go_enter Tryz.func69, Tryz.ntmps69
    go_wp2_with fail
    refine Cm.out.mono ?_
    rintro e w1 ⟨rfl, hB1⟩
    go_wp2_with fail
    go_ret
    exact ⟨rfl, hb0.trans (hB1.mono hb0.size)⟩
  rw [tr_yes hM] at Cm
  have HM := Lib.hid hM
  clear hM
  have s0' := Lib.hid s0
  clear s0
  by_cases hmn : m = n
  case neg =>
    have e : r = false := by rw [Hr.out]; exact tr_no fun h => hmn (by have := Sc.fits_len h.2; rw [Hm.out, Hl.out]; exact this)
    subst e
    have qm : ((m : Int) != (n : Int)) = true := by simp; omega
    clear hmn
    go_enter Tryz.func69, Tryz.ntmps69
    go_wp2_with fail
    refine Cm.out.mono ?_
    rintro e w1 ⟨rfl, hB1⟩
    generalize w.alloc (.cells #[.slice A n c, .int .i64 s.key, .int .i64 s.cmp, .int .i64 s.del, .int .i64 s.sort] 24) = wa at *
    obtain ⟨p0, p1, p2, p3, p4⟩ := five (s0'.out.below (Wd.Bx.lt s0'.out) hB1)
    go_wp2_with fail
    go_ret
    exact ⟨rfl, hb0.trans (hB1.mono hb0.size)⟩
  subst hmn
  go_enter Tryz.func69, Tryz.ntmps69
  go_wp2_with fail
  refine Cm.out.mono ?_
  rintro e w1 ⟨rfl, hB1⟩
  generalize w.alloc (.cells #[.slice A m c, .int .i64 s.key, .int .i64 s.cmp, .int .i64 s.del, .int .i64 s.sort] 24) = wa at *
  have s1 := s0'.out.below (Wd.Bx.lt s0'.out) hB1
  have hb1 := hb0.trans (hB1.mono hb0.size)
  have HS1 := Lib.hid (HS.out.below hB1)
  have HV1 := Lib.hid (HV.out.below hB1)
  have hg1 := Wd.Bx.lt s1
  obtain ⟨p0, p1, p2, p3, p4⟩ := five s1
  have Hp := Lib.hid (five s1)
  go_wp2
  clear p0 p1 p2 p3 p4
  go_loopw [6] (fun i wr => ∃ k : Nat, i = .int .i64 k ∧ k ≤ m ∧ Hid (∀ j, j < k → fit1 (s.cols.getD j default) (vs.getD j default)) ∧ Below w1.heap.size w1 wr) (fun i _ => m - (intOf i).toNat)
  case atStart => exact ⟨0, rfl, Nat.zero_le _, Lib.hid (fun j hj => by omega), Below.refl _ _⟩
  case round =>
    obtain ⟨k, rfl, hk, hf, hB⟩ := hrel
    have hbr := hb1.trans (hB.mono hb1.size)
    have hZ := hB.size
    by_cases hlt : k < m
    · obtain ⟨b, o, hA, hbB, c0, c1, c2, _⟩ := (HS1.out.below hB).cells (j := k) (by rw [← Hl.out]; exact hlt) rfl
      subst hA
      obtain ⟨x, hx⟩ : ∃ x, x = s.cols.getD k default := ⟨_, rfl⟩
      rw [← hx] at c0 c1 c2
      have Hx := Lib.hid hx
      obtain ⟨e, f, hR, heB, d0, d1, d2, d3, hv1⟩ := (HV1.out.below hB).cells (j := k) (by rw [← Hm.out]; exact hlt) rfl
      subst hR
      obtain ⟨v, hv⟩ : ∃ v, v = vs.getD k default := ⟨_, rfl⟩
      rw [← hv] at d0 d1 d2 d3 hv1
      have Hv := Lib.hid hv
      have bad : ¬ fit1 x v → r = false := fun h => by
        rw [Hr.out]
        exact tr_no fun q => h (by
          have := ((fits_get _ _).1 q.2).2 k (by rw [← Hl.out]; exact hlt)
          rw [Hx.out, Hv.out]; exact this)
      clear hx hv
      obtain ⟨xs, xk, xb⟩ := x
      obtain ⟨k1, i1, t1, b1⟩ := v
      simp only [] at c0 c1 c2 d0 d1 d2 d3 hv1 bad
      have Cv := Lib.hid fun w => Vc.refMay_any k1 i1 t1 b1 w
      have hfi : fit1 ⟨xs, xk, xb⟩ ⟨k1, i1, t1, b1⟩ ↔ Vc.mayB k1 i1 t1 b1 = true ∧ ¬ ((k1 != xk) = true ∧ ¬ (xb = true ∧ (k1 == 0) = true)) := by
        rw [Vc.mayB_iff]
        constructor
        · intro h
          exact ⟨h.1.1, by have := (fit1_iff _ _ h.1).1 h; simpa using this⟩
        · rintro ⟨h1, h2⟩
          exact (fit1_iff _ _ (ok_of h1 hv1)).2 (by simpa using h2)
      have Hfi := Lib.hid hfi
      have Hbad := Lib.hid bad
      clear hfi bad
      obtain ⟨ok, hok⟩ : ∃ ok, ok = Vc.mayB k1 i1 t1 b1 := ⟨_, rfl⟩
      obtain ⟨zn, hzn⟩ : ∃ zn, (k1 == 0) = zn := ⟨_, rfl⟩
      obtain ⟨ne, hne⟩ : ∃ ne, (k1 != xk) = ne := ⟨_, rfl⟩
      rw [← hok, hzn, hne] at Hfi
      rw [← hok] at Cv
      clear hok
      go_wp2_with fail
      refine (Cv.out wr).mono ?_
      rintro q w2 ⟨rfl, hB2⟩
      have hw2 := hB.trans (hB2.mono hZ)
      have c1' := (hB2.cell (p := ⟨b, o + k * 3 + 1, none⟩) hbB).trans c1
      have c2' := (hB2.cell (p := ⟨b, o + k * 3 + 2, none⟩) hbB).trans c2
      have d0' := (hB2.cell (p := ⟨e, f + k * 4, none⟩) heB).trans d0
      obtain ⟨p0, p1, p2, p3, p4⟩ := and5 Hp.out hw2 hg1
      clear c0 c1 c2 d0 d1 d2 d3
      cases zn <;> cases xb <;> cases ne <;> cases ok
      all_goals (
        go_wp2_with fail
        go_quiet (fail)
        go_wp2_with fail
        first
          | (go_ret
             exact ⟨by rw [Hbad.out (fun h => by have := Hfi.out.1 h; simp at this)]; rfl, hb1.trans ((Wd.below_drewN hw2 _).mono hb1.size)⟩)
          | (go_roundw
             case rel =>
               refine ⟨k + 1, by go_num, by omega, Lib.hid fun j hj => ?_, Wd.below_drewN hw2 _⟩
               by_cases hjk : j = k
               · rw [hjk, ← Hx.out, ← Hv.out]; exact Hfi.out.2 (by simp)
               · exact hf.out j (by omega)
             case measure => simp [intOf]; omega))
    · have hkI : ¬ (k : Int) < m := by omega
      have e : r = true := by
        rw [Hr.out]
        exact tr_yes ⟨HM.out, (fits_get _ _).2 ⟨by rw [← Hm.out, ← Hl.out], fun i hi => hf.out i (by have := Hl.out; omega)⟩⟩
      have He := Lib.hid e
      clear e hf
      go_wp2_with fail
      go_ret
      exact ⟨by rw [He.out]; rfl, hbr⟩
end Sx
namespace Cx
open Va (Vl May ord null)
open Sc (tr tr_yes tr_no tr_iff)
open Co
set_option maxHeartbeats 4000000 in
theorem sameC_any (A : Option Addr) (n c : Nat) (B : Option Addr) (m d : Nat) (C : Col) (A' : Option Addr) (n' c' : Nat) (B' : Option Addr) (m' d' : Nat) (D : Col) (w : World) (h : Cl w A n c B m d C) (k : Cl w A' n' c' B' m' d' D) :
    Calls Tryz.prog 31 #[.agg #[.int .i64 C.n, .slice A n c, .slice B m d], .agg #[.int .i64 D.n, .slice A' n' c', .slice B' m' d']] w fun e w' => e = .returned (.bool (tr (C = D))) ∧ Below w.heap.size w w' := by
  have hb0 := ((Below.refl w.heap.size w).alloc (Nat.le_refl _) (.cells #[.int .i64 C.n, .slice A n c, .slice B m d] 57)).alloc (by simp) (.cells #[.int .i64 D.n, .slice A' n' c', .slice B' m' d'] 57)
  have x0 : Cb ((w.alloc (.cells #[.int .i64 C.n, .slice A n c, .slice B m d] 57)).alloc (.cells #[.int .i64 D.n, .slice A' n' c', .slice B' m' d'] 57)) w.heap.size C.n A n c B m d := ⟨(Cb.new w _ _ _ _ _ _ _).bx.alloc _⟩
  have x1 : Cb ((w.alloc (.cells #[.int .i64 C.n, .slice A n c, .slice B m d] 57)).alloc (.cells #[.int .i64 D.n, .slice A' n' c', .slice B' m' d'] 57)) (w.heap.size + 1) D.n A' n' c' B' m' d' := by
    have := Cb.new (w.alloc (.cells #[.int .i64 C.n, .slice A n c, .slice B m d] 57)) D.n A' n' c' B' m' d'
    rwa [World.size_alloc] at this
  have C1 := Lib.hid (Sx.sameV_any A n c C.dict A' n' c' D.dict _ (h.dict.below hb0) (k.dict.below hb0))
  have C2 := Lib.hid fun w' (hb : Below w.heap.size w w') => Nc.same_any B B' m m' d d' C.ids D.ids w' (h.ids.below hb) (k.ids.below hb)
  have Hb0 := Lib.hid hb0
  have hsz : ((w.alloc (.cells #[.int .i64 C.n, .slice A n c, .slice B m d] 57)).alloc (.cells #[.int .i64 D.n, .slice A' n' c', .slice B' m' d'] 57)).heap.size = w.heap.size + 1 + 1 := by simp
  have hsame : C = D ↔ (C.dict = D.dict ∧ C.ids = D.ids ∧ C.n = D.n) := ⟨fun e => by subst e; exact ⟨rfl, rfl, rfl⟩, fun q => Col.ext' q.2.2 q.1 q.2.1⟩
  obtain ⟨r, hr⟩ : ∃ r, r = tr (C = D) := ⟨_, rfl⟩
  rw [← hr]
  obtain ⟨b1, hb1⟩ : ∃ b, b = tr (C.dict = D.dict) := ⟨_, rfl⟩
  obtain ⟨b2, hb2⟩ : ∃ b, b = decide (C.ids = D.ids) := ⟨_, rfl⟩
  rw [← hb1] at C1
  rw [← hb2] at C2
  have H1 := Lib.hid (show b1 = true ↔ C.dict = D.dict by rw [hb1]; exact tr_iff)
  have H2 := Lib.hid (show b2 = true ↔ C.ids = D.ids by rw [hb2]; exact decide_eq_true_iff)
  have Hr := Lib.hid hr
  have Hs := Lib.hid hsame
  obtain ⟨N1, hN1⟩ : ∃ N, N = C.n := ⟨_, rfl⟩
  obtain ⟨N2, hN2⟩ : ∃ N, N = D.n := ⟨_, rfl⟩
  rw [← hN1, ← hN2] at x0 x1 C1 Hb0 hsz ⊢
  have HN1 := Lib.hid hN1
  have HN2 := Lib.hid hN2
  have c0 := x0.c1
  have c1 := x1.c1
  clear h k hb0 hr hb1 hb2 hN1 hN2 hsame
  go_enter Tryz.func31, Tryz.ntmps31
  go_wp2_with fail
  refine C1.out.mono ?_
  rintro e w1 ⟨rfl, hB1⟩
  have hb1 := Hb0.out.trans (hB1.mono (by rw [hsz]; omega))
  have y0 := x0.below (by rw [hsz]; omega) hB1
  have y1 := x1.below (by rw [hsz]; omega) hB1
  have d0 := y0.c2
  have d1 := y1.c2
  have C3 := Lib.hid (C2.out w1 hb1)
  clear c0 c1 x0 x1 hB1 C1 C2
  go_wp2_with fail
  refine C3.out.mono ?_
  rintro e w2 ⟨rfl, q, rfl⟩
  have e0 := y0.c0
  have e1 := y1.c0
  have Hb2 := Lib.hid (Wd.below_drewN hb1 q)
  clear hb1 C3 d0 d1 y0 y1
  by_cases h1 : C.dict = D.dict
  case neg =>
    have e : b1 = false := by
      cases b1
      · rfl
      · exact absurd (H1.out.1 rfl) h1
    subst e
    have er := Lib.hid (show r = false by rw [Hr.out]; exact tr_no fun q => h1 (Hs.out.1 q).1)
    clear h1
    go_wp2_with fail
    go_ret
    exact ⟨by rw [er.out]; rfl, Hb2.out⟩
  have e := H1.out.2 h1
  subst e
  by_cases h2 : C.ids = D.ids
  case neg =>
    have e : b2 = false := by
      cases b2
      · rfl
      · exact absurd (H2.out.1 rfl) h2
    subst e
    have er := Lib.hid (show r = false by rw [Hr.out]; exact tr_no fun q => h2 (Hs.out.1 q).2.1)
    clear h1 h2
    go_wp2_with fail
    go_ret
    exact ⟨by rw [er.out]; rfl, Hb2.out⟩
  have e := H2.out.2 h2
  subst e
  have er := Lib.hid (show r = decide (N1 = N2) by
    rw [Hr.out]
    by_cases q : N1 = N2
    · rw [tr_yes (Hs.out.2 ⟨h1, h2, by rw [← HN1.out, ← HN2.out]; exact q⟩), decide_eq_true q]
    · rw [tr_no (fun t => q (by rw [HN1.out, HN2.out]; exact (Hs.out.1 t).2.2)), decide_eq_false q])
  clear h1 h2
  go_wp2_with fail
  go_ret
  exact ⟨by rw [er.out]; rfl, Hb2.out⟩
def LightC (C : Col) : Prop := C.dict.length ≤ 200 ∧ C.ids.length ≤ 200 ∧ ∀ i, i < C.dict.length → (C.dict.getD i default).s.size ≤ 300
set_option maxHeartbeats 4000000 in
theorem Light_any (A : Option Addr) (n c : Nat) (B : Option Addr) (m d : Nat) (C : Col) (w : World) (h : Cl w A n c B m d C) :
    Calls Tryz.prog 18 #[.agg #[.int .i64 C.n, .slice A n c, .slice B m d]] w fun e w' => e = .returned (.bool (tr (LightC C))) ∧ Below w.heap.size w w' := by
  have hb0 := (Below.refl w.heap.size w).alloc (Nat.le_refl _) (.cells #[.int .i64 C.n, .slice A n c, .slice B m d] 57)
  have x0 := Cb.new w C.n A n c B m d
  have Hn := Lib.hid h.dict.len
  have Hm := Lib.hid h.ids.len
  have HV := Lib.hid (h.dict.below hb0)
  have Hb := Lib.hid hb0
  have hcap := h.dict.cap
  have hmx := h.dict.max
  have hcap2 := h.ids.cap
  have hmx2 := h.ids.max
  unfold maxLen at hmx hmx2
  obtain ⟨r, hr⟩ : ∃ r, r = tr (LightC C) := ⟨_, rfl⟩
  rw [← hr]
  have Hr := Lib.hid hr
  obtain ⟨N, hN⟩ : ∃ N, N = C.n := ⟨_, rfl⟩
  rw [← hN] at x0 HV Hb ⊢
  have c1 := x0.c1
  have c2 := x0.c2
  clear hr hN h hb0 x0
  by_cases h1 : 200 < n
  · have e := Lib.hid (show r = false by rw [Hr.out]; exact tr_no fun q => by have := q.1; have := Hn.out; omega)
    have hd : decide ((200 : Int) < (n : Int)) = true := decide_eq_true (by omega)
    go_enter Tryz.func18, Tryz.ntmps18
    go_wp2_with fail
    go_ret
    exact ⟨by rw [e.out]; rfl, Hb.out⟩
  have hd : decide ((200 : Int) < (n : Int)) = false := decide_eq_false (by omega)
  by_cases h2 : 200 < m
  · have e := Lib.hid (show r = false by rw [Hr.out]; exact tr_no fun q => by have := q.2.1; have := Hm.out; omega)
    have hd2 : decide ((200 : Int) < (m : Int)) = true := decide_eq_true (by omega)
    go_enter Tryz.func18, Tryz.ntmps18
    go_wp2_with fail
    go_ret
    exact ⟨by rw [e.out]; rfl, Hb.out⟩
  have hd2 : decide ((200 : Int) < (m : Int)) = false := decide_eq_false (by omega)
  obtain ⟨wo, hwo⟩ : ∃ wo, wo = w.alloc (.cells #[.int .i64 N, .slice A n c, .slice B m d] 57) := ⟨_, rfl⟩
  go_enter Tryz.func18, Tryz.ntmps18
  rw [← hwo] at HV Hb c1 c2
  have Hwo := Lib.hid hwo
  clear hwo
  go_wp2
  go_loopw [3] (fun i wr => ∃ k : Nat, i = .int .i64 k ∧ k ≤ n ∧ Hid (∀ j, j < k → (C.dict.getD j default).s.size ≤ 300) ∧ wr = wo) (fun i _ => n - (intOf i).toNat)
  case atStart => exact ⟨0, rfl, Nat.zero_le _, Lib.hid (fun j hj => by omega), Hwo.out.symm⟩
  case round =>
    obtain ⟨k, rfl, hk, hf, rfl⟩ := hrel
    by_cases hlt : k < n
    · have hkl : k < C.dict.length := by rw [← Hn.out]; exact hlt
      obtain ⟨e, f, hR, heB, d0, d1, d2, d3, _⟩ := HV.out.cells (j := k) hkl rfl
      subst hR
      obtain ⟨x, hx⟩ : ∃ x, x = C.dict.getD k default := ⟨_, rfl⟩
      rw [← hx] at d2
      have Hx := Lib.hid hx
      have Hkl := Lib.hid hkl
      have g1 : (k : Int) < (n : Int) := by omega
      clear hx d0 d1 d3 hkl
      by_cases hz : x.s.size ≤ 300
      · have q2 : ¬ (300 : Int) < (x.s.size : Int) := by omega
        have hn := Lib.hid (show ∀ j, j < k + 1 → (C.dict.getD j default).s.size ≤ 300 from fun j hj => by
          by_cases e : j = k
          · rw [e, ← Hx.out]; exact hz
          · exact hf.out j (by omega))
        clear hf
        go_wp2_with fail
        go_roundw
        case rel => exact ⟨k + 1, by go_num, by omega, hn, trivial⟩
        case measure => simp [intOf]; omega
      · have q2 : (300 : Int) < (x.s.size : Int) := by omega
        have e : r = false := by rw [Hr.out]; exact tr_no fun h => by have := h.2.2 k Hkl.out; rw [← Hx.out] at this; omega
        have He := Lib.hid e
        clear e hf
        go_wp2_with fail
        go_ret
        exact ⟨by rw [He.out]; rfl, Hb.out⟩
    · have g1 : ¬ (k : Int) < (n : Int) := by omega
      have e : r = true := by
        rw [Hr.out]
        exact tr_yes ⟨by have := Hn.out; omega, by have := Hm.out; omega, fun i hi => hf.out i (by have := Hn.out; omega)⟩
      have He := Lib.hid e
      clear e hf
      go_wp2_with fail
      go_ret
      exact ⟨by rw [He.out]; rfl, Hb.out⟩
end Cx
end Go.Proofs.YtaoeipehpakngaaGreatDoor
