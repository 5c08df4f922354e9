/- What the reference's Light does, and the reference of layer 6's Same. -/
import Derived.Test.YtiokajaadmfohaaVaOpen
import Derived.Test.YtiokajaadmfohaaVaMay
import Derived.Test.YtiokajaadmfohaaScMay
import Derived.BigRegion
import Derived.BigQuiet
import Derived.Deep.QuietTactic
namespace Go.Proofs.Ytiokajaadmfohaa
set_option maxRecDepth 20000
open Go.RowKit
namespace Sx
open Sc (tr tr_yes tr_no)
open Va (Vl May)
def LightS (vs : List Vl) : Prop := vs.length ≤ 12 ∧ ∀ i, i < vs.length → (vs.getD i default).s.size ≤ 300
set_option maxHeartbeats 1000000 in
theorem Light_any (R : Option Addr) (m d : Nat) (vs : List Vl) (w : World) (hV : Wd.Vs w R m d vs) :
    Calls Try.prog 28 #[.slice R m d] w fun e w' => e = .returned (.bool (tr (LightS vs))) ∧ w' = w := by
  have Hm := Lib.hid hV.len
  have HV := Lib.hid hV
  have hcap := hV.cap
  obtain ⟨r, hr⟩ : ∃ r, r = tr (LightS vs) := ⟨_, rfl⟩
  rw [← hr]
  have Hr := Lib.hid hr
  clear hr hV
  by_cases h12 : 12 < m
  · have e : r = false := by rw [Hr.out]; exact tr_no fun h => by have := h.1; have := Hm.out; omega
    subst e
    have q1 : (12 : Int) < (m : Int) := by omega
    clear h12
    go_enter Try.func28, Try.ntmps28
    go_wp2_with fail
    go_ret
    exact ⟨rfl, rfl⟩
  have q1 : ¬ (12 : Int) < (m : Int) := by omega
  go_enter Try.func28, Try.ntmps28
  go_wp2
  go_loopw [3] (fun i wr => ∃ k : Nat, i = .int .i64 k ∧ k ≤ m ∧ Hid (∀ j, j < k → (vs.getD j default).s.size ≤ 300) ∧ wr = w) (fun i _ => m - (intOf i).toNat)
  case atStart => exact ⟨0, rfl, Nat.zero_le _, Lib.hid (fun j hj => by omega), rfl⟩
  case round =>
    obtain ⟨k, rfl, hk, hf, rfl⟩ := hrel
    by_cases hlt : k < m
    · obtain ⟨e, f, hR, heB, d0, d1, d2, d3, _⟩ := HV.out.cells (j := k) (by rw [← Hm.out]; exact hlt) rfl
      subst hR
      obtain ⟨x, hx⟩ : ∃ x, x = (vs.getD k default).s := ⟨_, rfl⟩
      rw [← hx] at d2
      have Hx := Lib.hid hx
      clear hx d0 d1 d3
      by_cases hz : 300 < x.size
      · have e : r = false := by rw [Hr.out]; exact tr_no fun h => by have := h.2 k (by rw [← Hm.out]; exact hlt); rw [← Hx.out] at this; omega
        have He := Lib.hid e
        have hzI : (300 : Int) < (x.size : Int) := by omega
        clear e
        go_wp2_with fail
        go_ret
        exact ⟨by rw [He.out]; rfl, rfl⟩
      · have hzI : ¬ (300 : Int) < (x.size : Int) := by omega
        go_wp2_with fail
        go_roundw
        case rel =>
          refine ⟨k + 1, by go_num, by omega, Lib.hid fun j hj => ?_, by first | rfl | trivial⟩
          by_cases hjk : j = k
          · rw [hjk, ← Hx.out]; omega
          · exact hf.out j (by omega)
        case measure => simp [intOf]; omega
    · have hkI : ¬ (k : Int) < m := by omega
      have e : r = true := by
        rw [Hr.out]
        exact tr_yes ⟨by have := Hm.out; omega, fun i hi => hf.out i (by have := Hm.out; omega)⟩
      have He := Lib.hid e
      clear e hf
      go_wp2_with fail
      go_ret
      exact ⟨by rw [He.out]; rfl, rfl⟩
theorem eq_get {vs us : List Vl} (hl : vs.length = us.length) (h : ∀ i, i < vs.length → vs.getD i default = us.getD i default) : vs = us := by
  apply List.ext_getElem hl
  intro i h1 h2
  have := h i h1
  simpa [List.getD, List.getElem?_eq_getElem h1, List.getElem?_eq_getElem h2] using this
set_option maxHeartbeats 2000000 in
theorem sameV_any (R : Option Addr) (m d : Nat) (vs : List Vl) (T : Option Addr) (p q : Nat) (us : List Vl) (w : World) (hV : Wd.Vs w R m d vs) (hU : Wd.Vs w T p q us) :
    Calls Try.prog 20 #[.slice R m d, .slice T p q] w fun e w' => e = .returned (.bool (tr (vs = us))) ∧ Below w.heap.size w w' := by
  have Hm := Lib.hid hV.len
  have Hp := Lib.hid hU.len
  have HV := Lib.hid hV
  have HU := Lib.hid hU
  have hcap := hV.cap
  have hmx := hV.max
  unfold maxLen at hmx
  have hcapq := hU.cap
  obtain ⟨r, hr⟩ : ∃ r, r = tr (vs = us) := ⟨_, rfl⟩
  rw [← hr]
  have Hr := Lib.hid hr
  clear hr hV hU
  by_cases hmp : m = p
  case neg =>
    have e : r = false := by rw [Hr.out]; exact tr_no fun h => hmp (by rw [Hm.out, Hp.out, h])
    subst e
    have qm : ((m : Int) != (p : Int)) = true := by simp; omega
    clear hmp
    go_enter Try.func20, Try.ntmps20
    go_wp2_with fail
    go_ret
    exact ⟨rfl, Below.refl _ _⟩
  subst hmp
  have hgt : Try.prog.eqGuardType Try.prog.depth 24 = false := by kernel_rfl
  go_enter Try.func20, Try.ntmps20
  go_wp2
  go_loopw [5] (fun i wr => ∃ k : Nat, i = .int .i64 k ∧ k ≤ m ∧ Hid (∀ j, j < k → vs.getD j default = us.getD j default) ∧ Below w.heap.size w wr) (fun i _ => m - (intOf i).toNat)
  case atStart => exact ⟨0, rfl, Nat.zero_le _, Lib.hid (fun j hj => by omega), Below.refl _ _⟩
  case round =>
    obtain ⟨k, rfl, hk, hf, hB⟩ := hrel
    by_cases hlt : k < m
    · obtain ⟨e, f, hR, heB, d0, d1, d2, d3, _⟩ := (HV.out.below hB).cells (j := k) (by rw [← Hm.out]; exact hlt) rfl
      subst hR
      obtain ⟨v, hv⟩ : ∃ v, v = vs.getD k default := ⟨_, rfl⟩
      rw [← hv] at d0 d1 d2 d3
      obtain ⟨e', f', hT, heB', u0, u1, u2, u3, _⟩ := (HU.out.below hB).cells (j := k) (by rw [← Hp.out]; exact hlt) rfl
      subst hT
      obtain ⟨u, hu⟩ : ∃ u, u = us.getD k default := ⟨_, rfl⟩
      rw [← hu] at u0 u1 u2 u3
      have Hv := Lib.hid hv
      have Hu := Lib.hid hu
      clear hv hu
      have heq := fun w => Vc.eqV v.kind v.i v.s v.b u.kind u.i u.s u.b w
      by_cases hz : v = u
      · subst hz
        rw [decide_eq_true (by simp)] at heq
        go_wp2_with fail
        go_quiet (fail)
        go_wp2_with fail
        go_roundw
        case rel =>
          refine ⟨k + 1, by go_num, by omega, Lib.hid fun j hj => ?_, Wd.below_drewN hB _⟩
          by_cases hjk : j = k
          · rw [hjk, ← Hv.out, ← Hu.out]
          · exact hf.out j (by omega)
        case measure => simp [intOf]; omega
      · have e : r = false := by rw [Hr.out]; exact tr_no fun h => hz (by rw [Hv.out, Hu.out, h])
        rw [decide_eq_false (fun h => hz (by cases v; cases u; simp_all))] at heq
        have He := Lib.hid e
        clear e hz
        go_wp2_with fail
        go_quiet (fail)
        go_wp2_with fail
        go_ret
        exact ⟨by rw [He.out]; rfl, Wd.below_drewN hB _⟩
    · have hkI : ¬ (k : Int) < m := by omega
      have e : r = true := by
        rw [Hr.out]
        exact tr_yes (eq_get (by rw [← Hm.out, ← Hp.out]) fun i hi => hf.out i (by have := Hm.out; omega))
      have He := Lib.hid e
      clear e hf
      go_wp2_with fail
      go_ret
      exact ⟨by rw [He.out]; rfl, hB⟩
end Sx
end Go.Proofs.Ytiokajaadmfohaa
