/- What the reference of layer 10 does: Same, Light; few of the statements of layer 10. The reference of layer 12: Head, Fit, Light, Same. What the reference's Few does. From an argument as the statement reads it to the words of this seat: a slice of integers. -/
import Derived.Deep.RegionHeld3
import Derived.Deep.DeepCutAuto
import Derived.Lib.Hide
import Derived.BigRegion
import Derived.BigQuiet
import Derived.Deep.QuietTactic
import Derived.ProofKit
import Derived.OpenShut
import Derived.Test.YtoibpbnebcoafaaGreatPk08
import Derived.Test.YtoibpbnebcoafaaGreatPk21
import Derived.Test.YtoibpbnebcoafaaGreatPk12
import Derived.Test.YtoibpbnebcoafaaGreatPk40
import Derived.Test.YtoibpbnebcoafaaGreatPk43
import Derived.Test.YtoibpbnebcoafaaGreatPk23
import Derived.Test.YtoibpbnebcoafaaGreatPk14
import Derived.Test.YtoibpbnebcoafaaGreatPk02
namespace Go.Proofs.YtoibpbnebcoafaaGreat
set_option maxRecDepth 20000
open Go.RowKit
namespace Cx
open Va (Vl May ord null)
open Sc (tr tr_yes tr_no tr_iff)
open Co
set_option maxHeartbeats 4000000 in
theorem sameC_any (A : Option Addr) (n c : Nat) (B : Option Addr) (m d : Nat) (C : Col) (A' : Option Addr) (n' c' : Nat) (B' : Option Addr) (m' d' : Nat) (D : Col) (w : World) (h : Cl w A n c B m d C) (k : Cl w A' n' c' B' m' d' D) :
    Calls Tryz.prog 40 #[.agg #[.int .i64 C.n, .slice A n c, .slice B m d], .agg #[.int .i64 D.n, .slice A' n' c', .slice B' m' d']] w fun e w' => e = .returned (.bool (tr (C = D))) ∧ Below w.heap.size w w' := by
  have hb0 := ((Below.refl w.heap.size w).alloc (Nat.le_refl _) (.cells #[.int .i64 C.n, .slice A n c, .slice B m d] 70)).alloc (by simp) (.cells #[.int .i64 D.n, .slice A' n' c', .slice B' m' d'] 70)
  have x0 : Cb ((w.alloc (.cells #[.int .i64 C.n, .slice A n c, .slice B m d] 70)).alloc (.cells #[.int .i64 D.n, .slice A' n' c', .slice B' m' d'] 70)) w.heap.size C.n A n c B m d := ⟨(Cb.new w _ _ _ _ _ _ _).bx.alloc _⟩
  have x1 : Cb ((w.alloc (.cells #[.int .i64 C.n, .slice A n c, .slice B m d] 70)).alloc (.cells #[.int .i64 D.n, .slice A' n' c', .slice B' m' d'] 70)) (w.heap.size + 1) D.n A' n' c' B' m' d' := by
    have := Cb.new (w.alloc (.cells #[.int .i64 C.n, .slice A n c, .slice B m d] 70)) D.n A' n' c' B' m' d'
    rwa [World.size_alloc] at this
  have C1 := Lib.hid (Sx.sameV_any A n c C.dict A' n' c' D.dict _ (h.dict.below hb0) (k.dict.below hb0))
  have C2 := Lib.hid fun w' (hb : Below w.heap.size w w') => Nc.same_any B B' m m' d d' C.ids D.ids w' (h.ids.below hb) (k.ids.below hb)
  have Hb0 := Lib.hid hb0
  have hsz : ((w.alloc (.cells #[.int .i64 C.n, .slice A n c, .slice B m d] 70)).alloc (.cells #[.int .i64 D.n, .slice A' n' c', .slice B' m' d'] 70)).heap.size = w.heap.size + 1 + 1 := by simp
  have hsame : C = D ↔ (C.dict = D.dict ∧ C.ids = D.ids ∧ C.n = D.n) := ⟨fun e => by subst e; exact ⟨rfl, rfl, rfl⟩, fun q => Col.ext' q.2.2 q.1 q.2.1⟩
  obtain ⟨r, hr⟩ : ∃ r, r = tr (C = D) := ⟨_, rfl⟩
  rw [← hr]
  obtain ⟨b1, hb1⟩ : ∃ b, b = tr (C.dict = D.dict) := ⟨_, rfl⟩
  obtain ⟨b2, hb2⟩ : ∃ b, b = decide (C.ids = D.ids) := ⟨_, rfl⟩
  rw [← hb1] at C1
  rw [← hb2] at C2
  have H1 := Lib.hid (show b1 = true ↔ C.dict = D.dict by rw [hb1]; exact tr_iff)
  have H2 := Lib.hid (show b2 = true ↔ C.ids = D.ids by rw [hb2]; exact decide_eq_true_iff)
  have Hr := Lib.hid hr
  have Hs := Lib.hid hsame
  obtain ⟨N1, hN1⟩ : ∃ N, N = C.n := ⟨_, rfl⟩
  obtain ⟨N2, hN2⟩ : ∃ N, N = D.n := ⟨_, rfl⟩
  rw [← hN1, ← hN2] at x0 x1 C1 Hb0 hsz ⊢
  have HN1 := Lib.hid hN1
  have HN2 := Lib.hid hN2
  have c0 := x0.c1
  have c1 := x1.c1
  clear h k hb0 hr hb1 hb2 hN1 hN2 hsame
  go_enter Tryz.func40, Tryz.ntmps40
  go_wp2_with fail
  refine C1.out.mono ?_
  rintro e w1 ⟨rfl, hB1⟩
  have hb1 := Hb0.out.trans (hB1.mono (by rw [hsz]; omega))
  have y0 := x0.below (by rw [hsz]; omega) hB1
  have y1 := x1.below (by rw [hsz]; omega) hB1
  have d0 := y0.c2
  have d1 := y1.c2
  have C3 := Lib.hid (C2.out w1 hb1)
  clear c0 c1 x0 x1 hB1 C1 C2
  go_wp2_with fail
  refine C3.out.mono ?_
  rintro e w2 ⟨rfl, q, rfl⟩
  have e0 := y0.c0
  have e1 := y1.c0
  have Hb2 := Lib.hid (Wd.below_drewN hb1 q)
  clear hb1 C3 d0 d1 y0 y1
  by_cases h1 : C.dict = D.dict
  case neg =>
    have e : b1 = false := by
      cases b1
      · rfl
      · exact absurd (H1.out.1 rfl) h1
    subst e
    have er := Lib.hid (show r = false by rw [Hr.out]; exact tr_no fun q => h1 (Hs.out.1 q).1)
    clear h1
    go_wp2_with fail
    go_ret
    exact ⟨by rw [er.out]; rfl, Hb2.out⟩
  have e := H1.out.2 h1
  subst e
  by_cases h2 : C.ids = D.ids
  case neg =>
    have e : b2 = false := by
      cases b2
      · rfl
      · exact absurd (H2.out.1 rfl) h2
    subst e
    have er := Lib.hid (show r = false by rw [Hr.out]; exact tr_no fun q => h2 (Hs.out.1 q).2.1)
    clear h1 h2
    go_wp2_with fail
    go_ret
    exact ⟨by rw [er.out]; rfl, Hb2.out⟩
  have e := H2.out.2 h2
  subst e
  have er := Lib.hid (show r = decide (N1 = N2) by
    rw [Hr.out]
    by_cases q : N1 = N2
    · rw [tr_yes (Hs.out.2 ⟨h1, h2, by rw [← HN1.out, ← HN2.out]; exact q⟩), decide_eq_true q]
    · rw [tr_no (fun t => q (by rw [HN1.out, HN2.out]; exact (Hs.out.1 t).2.2)), decide_eq_false q])
  clear h1 h2
  go_wp2_with fail
  go_ret
  exact ⟨by rw [er.out]; rfl, Hb2.out⟩
/-- At most 200 values and bytes, of texts of at most 300 bytes. -/
def LightC (C : Col) : Prop := C.dict.length ≤ 200 ∧ C.ids.length ≤ 200 ∧ ∀ i, i < C.dict.length → (C.dict.getD i default).s.size ≤ 300
def FewC (vs : List Vl) : Prop := vs.length ≤ 200 ∧ ∀ i, i < vs.length → (vs.getD i default).s.size ≤ 300
set_option maxHeartbeats 4000000 in
theorem Light_any (A : Option Addr) (n c : Nat) (B : Option Addr) (m d : Nat) (C : Col) (w : World) (h : Cl w A n c B m d C) :
    Calls Tryz.prog 42 #[.agg #[.int .i64 C.n, .slice A n c, .slice B m d]] w fun e w' => e = .returned (.bool (tr (LightC C))) ∧ Below w.heap.size w w' := by
  have hb0 := (Below.refl w.heap.size w).alloc (Nat.le_refl _) (.cells #[.int .i64 C.n, .slice A n c, .slice B m d] 70)
  have x0 := Cb.new w C.n A n c B m d
  have Hn := Lib.hid h.dict.len
  have Hm := Lib.hid h.ids.len
  have HV := Lib.hid (h.dict.below hb0)
  have Hb := Lib.hid hb0
  have hcap := h.dict.cap
  have hmx := h.dict.max
  have hcap2 := h.ids.cap
  have hmx2 := h.ids.max
  unfold maxLen at hmx hmx2
  obtain ⟨r, hr⟩ : ∃ r, r = tr (LightC C) := ⟨_, rfl⟩
  rw [← hr]
  have Hr := Lib.hid hr
  obtain ⟨N, hN⟩ : ∃ N, N = C.n := ⟨_, rfl⟩
  rw [← hN] at x0 HV Hb ⊢
  have c1 := x0.c1
  have c2 := x0.c2
  clear hr hN h hb0 x0
  by_cases h1 : 200 < n
  · have e := Lib.hid (show r = false by rw [Hr.out]; exact tr_no fun q => by have := q.1; have := Hn.out; omega)
    have hd : decide ((200 : Int) < (n : Int)) = true := decide_eq_true (by omega)
    go_enter Tryz.func42, Tryz.ntmps42
    go_wp2_with fail
    go_ret
    exact ⟨by rw [e.out]; rfl, Hb.out⟩
  have hd : decide ((200 : Int) < (n : Int)) = false := decide_eq_false (by omega)
  by_cases h2 : 200 < m
  · have e := Lib.hid (show r = false by rw [Hr.out]; exact tr_no fun q => by have := q.2.1; have := Hm.out; omega)
    have hd2 : decide ((200 : Int) < (m : Int)) = true := decide_eq_true (by omega)
    go_enter Tryz.func42, Tryz.ntmps42
    go_wp2_with fail
    go_ret
    exact ⟨by rw [e.out]; rfl, Hb.out⟩
  have hd2 : decide ((200 : Int) < (m : Int)) = false := decide_eq_false (by omega)
  obtain ⟨wo, hwo⟩ : ∃ wo, wo = w.alloc (.cells #[.int .i64 N, .slice A n c, .slice B m d] 70) := ⟨_, rfl⟩
  go_enter Tryz.func42, Tryz.ntmps42
  rw [← hwo] at HV Hb c1 c2
  have Hwo := Lib.hid hwo
  clear hwo
  go_wp2
  go_loopw [3] (fun i wr => ∃ k : Nat, i = .int .i64 k ∧ k ≤ n ∧ Hid (∀ j, j < k → (C.dict.getD j default).s.size ≤ 300) ∧ wr = wo) (fun i _ => n - (intOf i).toNat)
  case atStart => exact ⟨0, rfl, Nat.zero_le _, Lib.hid (fun j hj => by omega), Hwo.out.symm⟩
  case round =>
    obtain ⟨k, rfl, hk, hf, rfl⟩ := hrel
    by_cases hlt : k < n
    · have hkl : k < C.dict.length := by rw [← Hn.out]; exact hlt
      obtain ⟨e, f, hR, heB, d0, d1, d2, d3, _⟩ := HV.out.cells (j := k) hkl rfl
      subst hR
      obtain ⟨x, hx⟩ : ∃ x, x = C.dict.getD k default := ⟨_, rfl⟩
      rw [← hx] at d2
      have Hx := Lib.hid hx
      have Hkl := Lib.hid hkl
      have g1 : (k : Int) < (n : Int) := by omega
      clear hx d0 d1 d3 hkl
      by_cases hz : x.s.size ≤ 300
      · have q2 : ¬ (300 : Int) < (x.s.size : Int) := by omega
        have hn := Lib.hid (show ∀ j, j < k + 1 → (C.dict.getD j default).s.size ≤ 300 from fun j hj => by
          by_cases e : j = k
          · rw [e, ← Hx.out]; exact hz
          · exact hf.out j (by omega))
        clear hf
        go_wp2_with fail
        go_roundw
        case rel => exact ⟨k + 1, by go_num, by omega, hn, trivial⟩
        case measure => simp [intOf]; omega
      · have q2 : (300 : Int) < (x.s.size : Int) := by omega
        have e : r = false := by rw [Hr.out]; exact tr_no fun h => by have := h.2.2 k Hkl.out; rw [← Hx.out] at this; omega
        have He := Lib.hid e
        clear e hf
        go_wp2_with fail
        go_ret
        exact ⟨by rw [He.out]; rfl, Hb.out⟩
    · have g1 : ¬ (k : Int) < (n : Int) := by omega
      have e : r = true := by
        rw [Hr.out]
        exact tr_yes ⟨by have := Hn.out; omega, by have := Hm.out; omega, fun i hi => hf.out i (by have := Hn.out; omega)⟩
      have He := Lib.hid e
      clear e hf
      go_wp2_with fail
      go_ret
      exact ⟨by rw [He.out]; rfl, Hb.out⟩
end Cx
end Go.Proofs.YtoibpbnebcoafaaGreat
namespace Go.Proofs.YtoibpbnebcoafaaGreat
set_option maxRecDepth 20000
open Go.RowKit
namespace Se
open Va (Vl)
open Sc (Sch MayS FitS tr tr_yes tr_no tr_iff tr_congr)
open Sx (Sb five)
open Wd (Cr)
set_option maxHeartbeats 2000000 in
theorem refHead_any (OA : Option Addr) (on oc : Nat) (CA : Option Addr) (cn cc : Nat) (x : Seg) (w : World) :
    Calls Tryz.prog 38 #[.agg #[.int .i64 x.part, .int .i64 x.id, .int .i64 x.st, .int .i64 x.en, .slice OA on oc, .slice CA cn cc]] w fun e w' => e = .returned (.bool (tr (Head x))) ∧ Below w.heap.size w w' := by
  have hb0 := (Below.refl w.heap.size w).alloc (Nat.le_refl _) (.cells #[.int .i64 x.part, .int .i64 x.id, .int .i64 x.st, .int .i64 x.en, .slice OA on oc, .slice CA cn cc] 28)
  obtain ⟨d0, d1, d2, d3, -, -⟩ := Gb.six (Gb.new w x.part x.id x.st x.en OA on oc CA cn cc)
  obtain ⟨r, hr⟩ : ∃ r, r = tr (Head x) := ⟨_, rfl⟩
  rw [← hr]
  have Hno := Lib.hid (fun (h : ¬ Head x) => (by rw [hr]; exact tr_no h : r = false))
  have Hyes := Lib.hid (fun (h : Head x) => (by rw [hr]; exact tr_yes h : r = true))
  clear hr
  by_cases h0 : 0 ≤ x.part
  case neg =>
    have q := Lib.hid (Hno.out fun z => h0 z.1)
    go_enter Tryz.func38, Tryz.ntmps38
    go_wp2_with fail
    go_ret
    exact ⟨by rw [q.out]; rfl, hb0⟩
  by_cases h1 : x.part < 4
  case neg =>
    have q := Lib.hid (Hno.out fun z => h1 z.2.1)
    go_enter Tryz.func38, Tryz.ntmps38
    go_wp2_with fail
    go_ret
    exact ⟨by rw [q.out]; rfl, hb0⟩
  by_cases h2 : 1 ≤ x.id
  case neg =>
    have q := Lib.hid (Hno.out fun z => h2 z.2.2.1)
    go_enter Tryz.func38, Tryz.ntmps38
    go_wp2_with fail
    go_ret
    exact ⟨by rw [q.out]; rfl, hb0⟩
  by_cases h3 : x.id ≤ 1073741824
  case neg =>
    have q := Lib.hid (Hno.out fun z => h3 z.2.2.2.1)
    go_enter Tryz.func38, Tryz.ntmps38
    go_wp2_with fail
    go_ret
    exact ⟨by rw [q.out]; rfl, hb0⟩
  by_cases h4 : 0 ≤ x.st
  case neg =>
    have q := Lib.hid (Hno.out fun z => h4 z.2.2.2.2.1)
    go_enter Tryz.func38, Tryz.ntmps38
    go_wp2_with fail
    go_ret
    exact ⟨by rw [q.out]; rfl, hb0⟩
  by_cases h5 : x.st ≤ x.en
  case neg =>
    have q := Lib.hid (Hno.out fun z => h5 z.2.2.2.2.2.1)
    go_enter Tryz.func38, Tryz.ntmps38
    go_wp2_with fail
    go_ret
    exact ⟨by rw [q.out]; rfl, hb0⟩
  by_cases h6 : x.en ≤ 1099511627776
  case neg =>
    have q := Lib.hid (Hno.out fun z => h6 z.2.2.2.2.2.2)
    go_enter Tryz.func38, Tryz.ntmps38
    go_wp2_with fail
    go_ret
    exact ⟨by rw [q.out]; rfl, hb0⟩
  have q := Lib.hid (Hyes.out ⟨h0, h1, h2, h3, h4, h5, h6⟩)
  go_enter Tryz.func38, Tryz.ntmps38
  go_wp2_with fail
  go_ret
  exact ⟨by rw [q.out]; rfl, hb0⟩
set_option maxHeartbeats 4000000 in
theorem refFit_any (A : Option Addr) (n c : Nat) (s : Sch) (R : Option Addr) (m d : Nat) (l : List (List Vl)) (w : World) (hS : Wd.Cs w A n c s.cols) (hL : Wd.Ls w R m d l) (hn : n ≤ 1000000) (hm : m ≤ 1000000) :
    Calls Tryz.prog 28 #[.agg #[.slice A n c, .int .i64 s.key, .int .i64 s.cmp, .int .i64 s.del, .int .i64 s.sort], .slice R m d] w fun e w' => e = .returned (.bool (tr (Fit s l))) ∧ Below w.heap.size w w' := by
  have hb0 := (Below.refl w.heap.size w).alloc (Nat.le_refl _) (.cells #[.slice A n c, .int .i64 s.key, .int .i64 s.cmp, .int .i64 s.del, .int .i64 s.sort] 24)
  have s0 : Sb (w.alloc (.cells #[.slice A n c, .int .i64 s.key, .int .i64 s.cmp, .int .i64 s.del, .int .i64 s.sort] 24)) w.heap.size A n c s.key s.cmp s.del s.sort := Wd.Bx.new w _ _
  have Cm := Lib.hid (Sx.refMayS_any A n c s _ (hS.below hb0) hn)
  have HS := Lib.hid hS
  have HL := Lib.hid hL
  have Hl := Lib.hid hL.len
  have hcap := hL.cap
  have hmax := hL.max
  unfold maxLen at hmax
  have HB := Lib.hid s0
  have Hb0 := Lib.hid hb0
  obtain ⟨c0, c1, c2, c3, c4⟩ := five s0
  obtain ⟨r, hr⟩ : ∃ r, r = tr (Fit s l) := ⟨_, rfl⟩
  rw [← hr]
  have Hno := Lib.hid (fun (h : ¬ Fit s l) => (by rw [hr]; exact tr_no h : r = false))
  have Hyes := Lib.hid (fun (h : Fit s l) => (by rw [hr]; exact tr_yes h : r = true))
  clear hr hb0 s0 hS hL
  go_enter Tryz.func28, Tryz.ntmps28
  by_cases hm1 : MayS s
  case neg =>
    have q1 := Lib.hid (tr_no hm1)
    have q2 := Lib.hid (Hno.out fun z => hm1 z.1)
    clear hm1
    go_wp2_with fail
    refine Cm.out.mono ?_
    rintro e w1 ⟨rfl, hB1⟩
    rw [q1.out]
    have Hb1 := Lib.hid (Hb0.out.trans (hB1.mono Hb0.out.size))
    clear hB1 Cm
    go_wp2_with fail
    go_ret
    exact ⟨by rw [q2.out]; rfl, Hb1.out⟩
  have q1 := Lib.hid (tr_yes hm1)
  have Hm1 := Lib.hid hm1
  clear hm1
  go_wp2_with fail
  refine Cm.out.mono ?_
  rintro e w1 ⟨rfl, hB1⟩
  rw [q1.out]
  have Hb1 := Lib.hid (Hb0.out.trans (hB1.mono Hb0.out.size))
  have HB1 := Lib.hid (HB.out.below HB.out.lt hB1)
  clear hB1 c0 c1 c2 c3 c4 Cm
  go_wp2_with fail
  go_loopw [6] (fun i wr => ∃ k : Nat, i = .int .i64 k ∧ k ≤ m ∧ Hid ((∀ j, j < k → FitS s (l.getD j [])) ∧ Below w1.heap.size w1 wr)) (fun i _ => m - (intOf i).toNat)
  case atStart => exact ⟨0, rfl, Nat.zero_le _, Lib.hid ⟨fun j hj => by omega, Below.refl _ _⟩⟩
  case round =>
    obtain ⟨k, rfl, hk, hI⟩ := hrel
    by_cases hlt : k < m
    · have hkI : (k : Int) < (m : Int) := by omega
      have hbw : Below w.heap.size w wr := Hb1.out.trans (hI.out.2.mono Hb1.out.size)
      obtain ⟨b, f, A1, n1, c1, hA, _, r0, hV1⟩ := (HL.out.below hbw).at_ k (by have := Hl.out; omega)
      subst hA
      have Cf := Lib.hid (fun W (hb : Below wr.heap.size wr W) => Sx.refFits_any A n c s A1 n1 c1 (l.getD k []) W (HS.out.below (hbw.trans (hb.mono hbw.size))) (hV1.below hb) hn)
      obtain ⟨fv, hfv⟩ : ∃ fv, fv = tr (FitS s (l.getD k [])) := ⟨_, rfl⟩
      rw [← hfv] at Cf
      have Hfv := Lib.hid hfv
      have SB := Lib.hid (HB1.out.below HB1.out.lt hI.out.2)
      have R0 := Lib.hid r0
      have hkl : k < l.length := by have := Hl.out; omega
      have Hkl := Lib.hid hkl
      have HI := Lib.hid hI.out
      have ZZ := Lib.hid (fun (W : World) (hb : Below wr.heap.size wr W) => (show W.cell? ⟨w.heap.size, 0, none⟩ = some (.slice A n c) ∧ W.cell? ⟨w.heap.size, 1, none⟩ = some (.int .i64 s.key) ∧ W.cell? ⟨w.heap.size, 2, none⟩ = some (.int .i64 s.cmp) ∧ W.cell? ⟨w.heap.size, 3, none⟩ = some (.int .i64 s.del) ∧ W.cell? ⟨w.heap.size, 4, none⟩ = some (.int .i64 s.sort) ∧ W.cell? ⟨b, f + k, none⟩ = some (.slice A1 n1 c1) from by
        obtain ⟨a0, a1, a2, a3, a4⟩ := five (SB.out.below SB.out.lt hb)
        exact ⟨a0, a1, a2, a3, a4, (hb.cell (World.block_lt_of_cell? wr _ R0.out)).trans R0.out⟩))
      clear hbw r0 hV1 hfv hkl hI
      go_upto_region 7 with fail
      go_cut [7] (fun v wz => v = .bool fv ∧ Below wr.heap.size wr wz)
      case first =>
        have hb : Below wr.heap.size wr wr.drew := (Below.refl _ _).drew
        have z10 := ZZ.out wr.drew hb
        go_region_held3 (fun W => W.cell? ⟨w.heap.size, 0, none⟩ = some (.slice A n c) ∧ W.cell? ⟨w.heap.size, 1, none⟩ = some (.int .i64 s.key) ∧ W.cell? ⟨w.heap.size, 2, none⟩ = some (.int .i64 s.cmp) ∧ W.cell? ⟨w.heap.size, 3, none⟩ = some (.int .i64 s.del) ∧ W.cell? ⟨w.heap.size, 4, none⟩ = some (.int .i64 s.sort) ∧ W.cell? ⟨b, f + k, none⟩ = some (.slice A1 n1 c1)) (with_reducible first | exact z10) (first
          | (go_at_call 30; (with_reducible refine (Cf.out _ hb).mono ?_); rintro e w5 ⟨rfl, hB5⟩; have hb := hb.trans (hB5.mono hb.size); have z10 := ZZ.out _ hb))
        all_goals (
          go_wp2_with fail
          go_meet
          exact ⟨rfl, hb⟩)
      case rest =>
        obtain ⟨rfl, hbc⟩ := hcut
        have Hb5 := Lib.hid (HI.out.2.trans (hbc.mono HI.out.2.size))
        clear hbc ZZ Cf
        by_cases hv : FitS s (l.getD k [])
        · obtain rfl : fv = true := by rw [Hfv.out]; exact tr_yes hv
          have I6 := Lib.hid (show (∀ j, j < k + 1 → FitS s (l.getD j [])) ∧ Below w1.heap.size w1 wc from ⟨fun j h1 => by
            by_cases z : j = k
            · rw [z]; exact hv
            · exact HI.out.1 j (by omega), Hb5.out⟩)
          clear HI hv
          go_wp2_with fail
          go_roundw
          case rel => exact ⟨k + 1, by go_num, by omega, I6⟩
          case measure => simp [intOf]; omega
        · obtain rfl : fv = false := by rw [Hfv.out]; exact tr_no hv
          have t2 := Lib.hid (Hno.out fun z => hv (z.2 _ (by
            rw [List.getD_eq_getElem?_getD, List.getElem?_eq_getElem Hkl.out]
            exact List.getElem_mem _)))
          clear HI hv
          go_wp2_with fail
          go_ret
          exact ⟨by rw [t2.out]; rfl, Hb1.out.trans (Hb5.out.mono Hb1.out.size)⟩
    · have hkI : ¬ (k : Int) < (m : Int) := by omega
      have t2 := Lib.hid (Hyes.out ⟨Hm1.out, fun r hr => by
        obtain ⟨j, hj, rfl⟩ := List.getElem_of_mem hr
        have := hI.out.1 j (by have := Hl.out; omega)
        simpa [List.getD, List.getElem?_eq_getElem hj] using this⟩)
      have H4 := Lib.hid (Hb1.out.trans (hI.out.2.mono Hb1.out.size))
      clear hI
      go_wp2_with fail
      go_ret
      exact ⟨by rw [t2.out]; rfl, H4.out⟩
/-- A segment is light. -/
def LightG (x : Seg) : Prop := x.offs.length ≤ 200 ∧ x.cols.length ≤ 12 ∧ ∀ c ∈ x.cols, Cx.LightC c
set_option maxHeartbeats 4000000 in
theorem refLight_any (OA : Option Addr) (on oc : Nat) (CA : Option Addr) (cn cc : Nat) (os : List Cr) (x : Seg) (w : World) (hX : Sg w OA on oc CA cn cc os x) :
    Calls Tryz.prog 19 #[.agg #[.int .i64 x.part, .int .i64 x.id, .int .i64 x.st, .int .i64 x.en, .slice OA on oc, .slice CA cn cc]] w fun e w' => e = .returned (.bool (tr (LightG x))) ∧ Below w.heap.size w w' := by
  have hb0 := (Below.refl w.heap.size w).alloc (Nat.le_refl _) (.cells #[.int .i64 x.part, .int .i64 x.id, .int .i64 x.st, .int .i64 x.en, .slice OA on oc, .slice CA cn cc] 28)
  have x0 := Gb.new w x.part x.id x.st x.en OA on oc CA cn cc
  obtain ⟨d0, d1, d2, d3, d4, d5⟩ := Gb.six x0
  have HX := Lib.hid hX
  have X0 := Lib.hid x0
  have Hb0 := Lib.hid hb0
  have Hcn := Lib.hid hX.cols.len
  have Hon := Lib.hid hX.offs.len
  obtain ⟨r, hr⟩ : ∃ r, r = tr (LightG x) := ⟨_, rfl⟩
  rw [← hr]
  have Hno := Lib.hid (fun (h : ¬ LightG x) => (by rw [hr]; exact tr_no h : r = false))
  have Hyes := Lib.hid (fun (h : LightG x) => (by rw [hr]; exact tr_yes h : r = true))
  clear hr hX x0 hb0 d0 d1 d2 d3
  go_enter Tryz.func19, Tryz.ntmps19
  by_cases h1 : 200 < on
  · have t1 : (200 : Int) < (on : Int) := by omega
    have t1' : decide ((200 : Int) < (on : Int)) = true := decide_eq_true t1
    have t2 := Lib.hid (Hno.out fun z => by have := z.1; have := Hon.out; omega)
    clear h1
    go_wp2_with fail
    go_ret
    exact ⟨by rw [t2.out]; rfl, Hb0.out⟩
  have t1 : ¬ (200 : Int) < (on : Int) := by omega
  have t1' : decide ((200 : Int) < (on : Int)) = false := decide_eq_false t1
  by_cases h2 : 12 < cn
  · have t3 : (12 : Int) < (cn : Int) := by omega
    have t3' : decide ((12 : Int) < (cn : Int)) = true := decide_eq_true t3
    have t2 := Lib.hid (Hno.out fun z => by have := z.2.1; rw [HX.out.eq, Wd.cols_len] at this; have := Hcn.out; omega)
    go_wp2_with fail
    go_ret
    exact ⟨by rw [t2.out]; rfl, Hb0.out⟩
  have t3 : ¬ (12 : Int) < (cn : Int) := by omega
  have t3' : decide ((12 : Int) < (cn : Int)) = false := decide_eq_false t3
  go_wp2_with fail
  obtain ⟨w1, hw1⟩ : ∃ w1, w1 = w.alloc (.cells #[.int .i64 x.part, .int .i64 x.id, .int .i64 x.st, .int .i64 x.en, .slice OA on oc, .slice CA cn cc] 28) := ⟨_, rfl⟩
  rw [← hw1] at X0 Hb0
  try rw [← hw1]
  clear hw1 d4 d5
  go_loopw [3] (fun i wr => ∃ k : Nat, i = .int .i64 k ∧ k ≤ cn ∧ Hid ((∀ j, j < k → Cx.LightC (os.getD j default).C) ∧ Below w1.heap.size w1 wr)) (fun i _ => cn - (intOf i).toNat)
  case atStart => exact ⟨0, rfl, Nat.zero_le _, Lib.hid ⟨fun j hj => by omega, Below.refl _ _⟩⟩
  case round =>
    obtain ⟨k, rfl, hk, hI⟩ := hrel
    have d5 := (Gb.six (X0.out.below X0.out.lt hI.out.2)).2.2.2.2.2
    by_cases hltk : k < cn
    · have hkI : (k : Int) < (cn : Int) := by omega
      have hbw : Below w.heap.size w wr := Hb0.out.trans (hI.out.2.mono Hb0.out.size)
      have hko : k < os.length := by rw [← Hcn.out]; exact hltk
      obtain ⟨b, f, hA, _, c0, c1, c2, hC⟩ := (HX.out.cols.below hbw).cells hko rfl
      have hcap := HX.out.cols.cap
      have hmax := HX.out.cols.max
      unfold maxLen at hmax
      subst hA
      obtain ⟨o, ho⟩ : ∃ o, o = os.getD k default := ⟨_, rfl⟩
      rw [← ho] at c0 c1 c2 hC
      have Cl := Lib.hid (Cx.Light_any o.A o.n o.c o.B o.m o.d o.C wr hC)
      have hbad := fun (h : ¬ Cx.LightC o.C) => Hno.out fun z => h (z.2.2 o.C (by
          rw [HX.out.eq, ho]
          unfold Wd.cols
          refine List.mem_map.2 ⟨os.getD k default, ?_, rfl⟩
          rw [List.getD_eq_getElem?_getD, List.getElem?_eq_getElem hko]
          exact List.getElem_mem hko))
      have Ho := Lib.hid ho
      have Hbad := Lib.hid hbad
      clear hbad ho hko hC hbw
      by_cases q2 : Cx.LightC o.C
      case neg =>
        have t6 := Lib.hid (Hbad.out q2)
        have t7 := Lib.hid (tr_no q2)
        clear q2
        go_wp2_with fail
        refine Cl.out.mono ?_
        rintro e w3 ⟨rfl, hB3⟩
        rw [t7.out]
        have H3 := Lib.hid (hI.out.2.trans (hB3.mono hI.out.2.size))
        clear hB3 Cl hI
        go_wp2_with fail
        go_ret
        exact ⟨by rw [t6.out]; rfl, Hb0.out.trans (H3.out.mono Hb0.out.size)⟩
      have t7 := Lib.hid (tr_yes q2)
      have Q2 := Lib.hid q2
      clear q2
      go_wp2_with fail
      refine Cl.out.mono ?_
      rintro e w3 ⟨rfl, hB3⟩
      rw [t7.out]
      have I3 := Lib.hid (show (∀ j, j < k + 1 → Cx.LightC (os.getD j default).C) ∧ Below w1.heap.size w1 w3 from ⟨fun j hj => by
        by_cases z : j = k
        · rw [z, ← Ho.out]; exact Q2.out
        · exact hI.out.1 j (by omega), hI.out.2.trans (hB3.mono hI.out.2.size)⟩)
      clear hB3 Cl hI d5 c0 c1 c2
      go_wp2_with fail
      go_roundw
      case rel => exact ⟨k + 1, by go_num, by omega, I3⟩
      case measure => simp [intOf]; omega
    · have hkI : ¬ (k : Int) < (cn : Int) := by omega
      have t6 := Lib.hid (Hyes.out ⟨by have := Hon.out; omega, by rw [HX.out.eq, Wd.cols_len]; have := Hcn.out; omega, fun c hc => by
        rw [HX.out.eq] at hc
        obtain ⟨o, ho, rfl⟩ := List.mem_map.1 hc
        obtain ⟨j, hj, rfl⟩ := List.getElem_of_mem ho
        have := hI.out.1 j (by have := Hcn.out; omega)
        simpa [List.getD, List.getElem?_eq_getElem hj] using this⟩)
      have H3 := Lib.hid (Hb0.out.trans (hI.out.2.mono Hb0.out.size))
      clear hI
      go_wp2_with fail
      go_ret
      exact ⟨by rw [t6.out]; rfl, H3.out⟩
end Se
end Go.Proofs.YtoibpbnebcoafaaGreat
namespace Go.Proofs.YtoibpbnebcoafaaGreat
set_option maxRecDepth 20000
open Go.RowKit
namespace Sx
open Sc (Col Sch tr tr_yes tr_no)
open Va (Vl May)
/-- Not too great. -/
def FewS (s : Sch) : Prop := s.cols.length ≤ 12 ∧ ∀ i, i < s.cols.length → (s.cols.getD i default).name.size ≤ 100
set_option maxHeartbeats 1000000 in
theorem Few_any (A : Option Addr) (n c : Nat) (s : Sch) (w : World) (hS : Wd.Cs w A n c s.cols) :
    Calls Tryz.prog 10 #[.agg #[.slice A n c, .int .i64 s.key, .int .i64 s.cmp, .int .i64 s.del, .int .i64 s.sort]] w fun e w' => e = .returned (.bool (tr (FewS s))) ∧ Below w.heap.size w w' := by
  have hb0 := (Below.refl w.heap.size w).alloc (Nat.le_refl _) (.cells #[.slice A n c, .int .i64 s.key, .int .i64 s.cmp, .int .i64 s.del, .int .i64 s.sort] 24)
  have s0 : Sb (w.alloc (.cells #[.slice A n c, .int .i64 s.key, .int .i64 s.cmp, .int .i64 s.del, .int .i64 s.sort] 24)) w.heap.size A n c s.key s.cmp s.del s.sort := Wd.Bx.new w _ _
  have Hl := Lib.hid hS.len
  have HS := Lib.hid (hS.below hb0)
  have hcap := hS.cap
  obtain ⟨r, hr⟩ : ∃ r, r = tr (FewS s) := ⟨_, rfl⟩
  rw [← hr]
  have Hr := Lib.hid hr
  clear hr hS
  by_cases h12 : 12 < n
  · have e : r = false := by rw [Hr.out]; exact tr_no fun h => by have := h.1; have := Hl.out; omega
    subst e
    have q1 : (12 : Int) < (n : Int) := by omega
    clear h12
    go_enter Tryz.func10, Tryz.ntmps10
    go_wp2_with fail
    go_ret
    exact ⟨rfl, hb0⟩
  have q1 : ¬ (12 : Int) < (n : Int) := by omega
  go_enter Tryz.func10, Tryz.ntmps10
  go_wp2
  generalize w.alloc (.cells #[.slice A n c, .int .i64 s.key, .int .i64 s.cmp, .int .i64 s.del, .int .i64 s.sort] 24) = wa at *
  obtain ⟨p0, p1, p2, p3, p4⟩ := five s0
  go_loopw [3] (fun i wr => ∃ k : Nat, i = .int .i64 k ∧ k ≤ n ∧ Hid (∀ j, j < k → (s.cols.getD j default).name.size ≤ 100) ∧ wr = wa) (fun i _ => n - (intOf i).toNat)
  case atStart => exact ⟨0, rfl, Nat.zero_le _, Lib.hid (fun j hj => by omega), rfl⟩
  case round =>
    obtain ⟨k, rfl, hk, hf, rfl⟩ := hrel
    by_cases hlt : k < n
    · obtain ⟨b, o, hA, hbB, c0, c1, c2, _⟩ := HS.out.cells (j := k) (by rw [← Hl.out]; exact hlt) rfl
      subst hA
      obtain ⟨x, hx⟩ : ∃ x, x = (s.cols.getD k default).name := ⟨_, rfl⟩
      rw [← hx] at c0
      have Hx := Lib.hid hx
      clear hx c1 c2
      by_cases hz : 100 < x.size
      · have e : r = false := by rw [Hr.out]; exact tr_no fun h => by have := h.2 k (by rw [← Hl.out]; exact hlt); rw [← Hx.out] at this; omega
        have He := Lib.hid e
        have hzI : (100 : Int) < (x.size : Int) := by omega
        clear e
        go_wp2_with fail
        go_ret
        exact ⟨by rw [He.out]; rfl, hb0⟩
      · have hzI : ¬ (100 : Int) < (x.size : Int) := by omega
        go_wp2_with fail
        go_roundw
        case rel =>
          refine ⟨k + 1, by go_num, by omega, Lib.hid fun j hj => ?_, by first | rfl | trivial⟩
          by_cases hjk : j = k
          · rw [hjk, ← Hx.out]; omega
          · exact hf.out j (by omega)
        case measure => simp [intOf]; omega
    · have hkI : ¬ (k : Int) < n := by omega
      have e : r = true := by
        rw [Hr.out]
        exact tr_yes ⟨by have := Hl.out; omega, fun i hi => hf.out i (by have := Hl.out; omega)⟩
      have He := Lib.hid e
      clear e hf
      go_wp2_with fail
      go_ret
      exact ⟨by rw [He.out]; rfl, hb0⟩
end Sx
end Go.Proofs.YtoibpbnebcoafaaGreat
namespace Go.Proofs.YtoibpbnebcoafaaGreat
set_option maxRecDepth 20000
open Go.RowKit Go.ChangeShapes Go.WideShapes
namespace Wd
theorem open_sl {H : Type} {enc : TypeId × Value → H} {P : Program} {W : World} {r : Reach} {base0 base : Nat} {spare : Nat → Bool} {held : Bool} {t e : TypeId} {k : IntKind} {v : Value} {d : DataW H} {ps : List MemPlace}
    (ht : P.underlying t = some (.slice e)) (he : P.underlying e = some (.int k)) (hc : P.cellsOf e = 1) (hok : Value.okWide P W r base0 t v) (h : DataW.Trod enc P W base spare held t v d ps) :
    ∃ A n c xs, v = .slice A n c ∧ Sl W k A n c xs ∧ Fits k xs := by
  obtain ⟨A, n, c, rfl⟩ := okWide_slice ht hok
  obtain ⟨fuel, hf⟩ := h
  rcases open_ints ht he hc hf with ⟨hcs, _⟩ | ⟨x, l, cc, zs, hcs, _, hl, hm, hz, _, hcell, hwz⟩
  · simp [Value.cells] at hcs
    obtain ⟨rfl, rfl, rfl⟩ := hcs
    exact ⟨none, 0, 0, [], rfl, Sl.none_ _ _, fun x hx => by simp at hx⟩
  · simp [Value.cells] at hcs
    obtain ⟨rfl, rfl, rfl⟩ := hcs
    have hlz : n ≤ zs.length := by rw [hz]; split <;> omega
    refine ⟨_, _, _, zs.take n, rfl, ⟨by simp [hlz], hl, hm, by simp, ?_⟩, fun y hy => hwz y (List.mem_of_mem_take hy)⟩
    refine Rd.take (fun j hj => ?_) n
    obtain ⟨b, o, rfl, h1⟩ := ints_at hcell (by omega)
    have h2 := h1 j hj
    exact ⟨b, o, rfl, World.block_lt_of_cell? W ⟨b, o + j, none⟩ h2, h2⟩
end Wd
end Go.Proofs.YtoibpbnebcoafaaGreat
