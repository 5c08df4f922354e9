/- What the reference of layer 6's Same does. What the reference of layer 6 does: text, Order. -/
import Derived.BigRegion
import Derived.BigQuiet
import Derived.Deep.QuietTactic
import Derived.WalkLawsBesides
import Derived.Test.YtoibpbnebcoafaaGreatPk06
import Derived.Test.YtoibpbnebcoafaaGreatPk11
import Derived.Test.YtoibpbnebcoafaaGreatPk05
namespace Go.Proofs.YtoibpbnebcoafaaGreat
set_option maxRecDepth 20000
open Go.RowKit
namespace Sx
open Sc (tr tr_yes tr_no)
open Va (Vl May)
def LightS (vs : List Vl) : Prop := vs.length ≤ 12 ∧ ∀ i, i < vs.length → (vs.getD i default).s.size ≤ 300
theorem eq_get {vs us : List Vl} (hl : vs.length = us.length) (h : ∀ i, i < vs.length → vs.getD i default = us.getD i default) : vs = us := by
  apply List.ext_getElem hl
  intro i h1 h2
  have := h i h1
  simpa [List.getD, List.getElem?_eq_getElem h1, List.getElem?_eq_getElem h2] using this
set_option maxHeartbeats 2000000 in
theorem sameV_any (R : Option Addr) (m d : Nat) (vs : List Vl) (T : Option Addr) (p q : Nat) (us : List Vl) (w : World) (hV : Wd.Vs w R m d vs) (hU : Wd.Vs w T p q us) :
    Calls Tryz.prog 20 #[.slice R m d, .slice T p q] w fun e w' => e = .returned (.bool (tr (vs = us))) ∧ Below w.heap.size w w' := by
  have Hm := Lib.hid hV.len
  have Hp := Lib.hid hU.len
  have HV := Lib.hid hV
  have HU := Lib.hid hU
  have hcap := hV.cap
  have hmx := hV.max
  unfold maxLen at hmx
  have hcapq := hU.cap
  obtain ⟨r, hr⟩ : ∃ r, r = tr (vs = us) := ⟨_, rfl⟩
  rw [← hr]
  have Hr := Lib.hid hr
  clear hr hV hU
  by_cases hmp : m = p
  case neg =>
    have e : r = false := by rw [Hr.out]; exact tr_no fun h => hmp (by rw [Hm.out, Hp.out, h])
    subst e
    have qm : ((m : Int) != (p : Int)) = true := by simp; omega
    clear hmp
    go_enter Tryz.func20, Tryz.ntmps20
    go_wp2_with fail
    go_ret
    exact ⟨rfl, Below.refl _ _⟩
  subst hmp
  have hgt : Tryz.prog.eqGuardType Tryz.prog.depth 56 = false := by kernel_rfl
  go_enter Tryz.func20, Tryz.ntmps20
  go_wp2
  go_loopw [5] (fun i wr => ∃ k : Nat, i = .int .i64 k ∧ k ≤ m ∧ Hid (∀ j, j < k → vs.getD j default = us.getD j default) ∧ Below w.heap.size w wr) (fun i _ => m - (intOf i).toNat)
  case atStart => exact ⟨0, rfl, Nat.zero_le _, Lib.hid (fun j hj => by omega), Below.refl _ _⟩
  case round =>
    obtain ⟨k, rfl, hk, hf, hB⟩ := hrel
    by_cases hlt : k < m
    · obtain ⟨e, f, hR, heB, d0, d1, d2, d3, _⟩ := (HV.out.below hB).cells (j := k) (by rw [← Hm.out]; exact hlt) rfl
      subst hR
      obtain ⟨v, hv⟩ : ∃ v, v = vs.getD k default := ⟨_, rfl⟩
      rw [← hv] at d0 d1 d2 d3
      obtain ⟨e', f', hT, heB', u0, u1, u2, u3, _⟩ := (HU.out.below hB).cells (j := k) (by rw [← Hp.out]; exact hlt) rfl
      subst hT
      obtain ⟨u, hu⟩ : ∃ u, u = us.getD k default := ⟨_, rfl⟩
      rw [← hu] at u0 u1 u2 u3
      have Hv := Lib.hid hv
      have Hu := Lib.hid hu
      clear hv hu
      have heq := fun w => Vc.eqV v.kind v.i v.s v.b u.kind u.i u.s u.b w
      by_cases hz : v = u
      · subst hz
        rw [decide_eq_true (by simp)] at heq
        go_wp2_with fail
        go_quiet (fail)
        go_wp2_with fail
        go_roundw
        case rel =>
          refine ⟨k + 1, by go_num, by omega, Lib.hid fun j hj => ?_, Wd.below_drewN hB _⟩
          by_cases hjk : j = k
          · rw [hjk, ← Hv.out, ← Hu.out]
          · exact hf.out j (by omega)
        case measure => simp [intOf]; omega
      · have e : r = false := by rw [Hr.out]; exact tr_no fun h => hz (by rw [Hv.out, Hu.out, h])
        rw [decide_eq_false (fun h => hz (by cases v; cases u; simp_all))] at heq
        have He := Lib.hid e
        clear e hz
        go_wp2_with fail
        go_quiet (fail)
        go_wp2_with fail
        go_ret
        exact ⟨by rw [He.out]; rfl, Wd.below_drewN hB _⟩
    · have hkI : ¬ (k : Int) < m := by omega
      have e : r = true := by
        rw [Hr.out]
        exact tr_yes (eq_get (by rw [← Hm.out, ← Hp.out]) fun i hi => hf.out i (by have := Hm.out; omega))
      have He := Lib.hid e
      clear e hf
      go_wp2_with fail
      go_ret
      exact ⟨by rw [He.out]; rfl, hB⟩
end Sx
end Go.Proofs.YtoibpbnebcoafaaGreat
namespace Go.Proofs.YtoibpbnebcoafaaGreat
set_option maxRecDepth 20000
open Go.RowKit
namespace Vc
open Va
def cmpL (x y : List UInt8) : Int := way (Op.bytesLess x y) (Op.bytesLess y x)
theorem cmpS_eq (s t : ByteArray) : cmpS s t = cmpL s.toList t.toList := rfl
theorem cmpL_nil : cmpL [] [] = 0 := by simp [cmpL, Op.bytesLess, way]
theorem cmpL_lt (y : List UInt8) (h : y ≠ []) : cmpL [] y = -1 := by
  cases y with
  | nil => exact absurd rfl h
  | cons a y => simp [cmpL, Op.bytesLess, way]
theorem cmpL_gt (x : List UInt8) (h : x ≠ []) : cmpL x [] = 1 := by
  cases x with
  | nil => exact absurd rfl h
  | cons a x => simp [cmpL, Op.bytesLess, way]
theorem cmpL_cons (a b : UInt8) (x y : List UInt8) : cmpL (a :: x) (b :: y) = if a.toNat < b.toNat then -1 else if b.toNat < a.toNat then 1 else cmpL x y := by
  unfold cmpL
  rw [Op.bytesLess, Op.bytesLess]
  by_cases h1 : a < b
  · have h1' : a.toNat < b.toNat := UInt8.lt_iff_toNat_lt.1 h1
    simp [h1, h1', way]
  · have h1' : ¬ a.toNat < b.toNat := fun q => h1 (UInt8.lt_iff_toNat_lt.2 q)
    by_cases h2 : b < a
    · have h2' : b.toNat < a.toNat := UInt8.lt_iff_toNat_lt.1 h2
      have h3 : ¬ a = b := fun q => by rw [q] at h2'; omega
      simp [h1, h2, h1', h2', h3, way]
    · have h2' : ¬ b.toNat < a.toNat := fun q => h2 (UInt8.lt_iff_toNat_lt.2 q)
      have h3 : a = b := UInt8.toNat_inj.1 (by omega)
      subst h3
      simp [h1]
theorem drop_byte (s : ByteArray) (k : Nat) (h : k < s.size) : s.toList.drop k = s[k] :: s.toList.drop (k + 1) := by
  rw [ByteArray.toList_eq]
  have : k < s.data.toList.length := by simpa using h
  rw [List.drop_eq_getElem_cons this]
  rfl
theorem drop_all (s : ByteArray) (k : Nat) (h : s.size ≤ k) : s.toList.drop k = [] := by
  rw [ByteArray.toList_eq]
  exact List.drop_of_length_le (by simpa using h)
theorem drop_some (s : ByteArray) (k : Nat) (h : k < s.size) : s.toList.drop k ≠ [] := by rw [drop_byte s k h]; simp

set_option maxHeartbeats 1000000 in
theorem text_any (s t : ByteArray) (w : World) (hs : s.size ≤ maxLen) :
    Calls Tryz.prog 55 #[.string s, .string t] w fun e w' => e = .returned (.int .i64 (cmpS s t)) ∧ Below w.heap.size w w' := by
  obtain ⟨r, hr⟩ : ∃ r, r = cmpS s t := ⟨_, rfl⟩
  rw [← hr]
  have Hr := Lib.hid hr
  clear hr
  unfold maxLen at hs
  go_enter Tryz.func55, Tryz.ntmps55
  go_wp2
  go_loopw [5] (fun i wr => ∃ k : Nat, i = .int .i64 k ∧ k ≤ s.size ∧ k ≤ t.size ∧ Hid (cmpL (s.toList.drop k) (t.toList.drop k) = r) ∧ Below w.heap.size w wr) (fun i _ => s.size - (intOf i).toNat)
  case atStart => exact ⟨0, rfl, Nat.zero_le _, Nat.zero_le _, Lib.hid (by rw [Hr.out]; rfl), Below.refl _ _⟩
  case round =>
    obtain ⟨k, rfl, hk, hk', hf, hW⟩ := hrel
    by_cases h1 : k < s.size
    · by_cases h2 : k < t.size
      · have hI1 : (k : Int) < (s.size : Int) := by omega
        have hI2 : decide ((k : Int) < (t.size : Int)) = true := decide_eq_true (by omega)
        have hI3 : (k : Int) < (t.size : Int) := by omega
        have hst := cmpL_cons s[k] t[k] (s.toList.drop (k + 1)) (t.toList.drop (k + 1))
        rw [← drop_byte s k h1, ← drop_byte t k h2, hf.out] at hst
        have Hx := Lib.hid hst
        clear hst hf
        by_cases g1 : s[k].toNat < t[k].toNat
        · have gI : (s[k].toNat : Int) < (t[k].toNat : Int) := by omega
          go_wp2_with fail
          go_quiet (fail)
          go_wp2_with fail
          go_ret
          exact ⟨by rw [Hx.out, if_pos g1]; rfl, Wd.below_drewN hW _⟩
        by_cases g2 : t[k].toNat < s[k].toNat
        · have gI : ¬ (s[k].toNat : Int) < (t[k].toNat : Int) := by omega
          have gJ : (t[k].toNat : Int) < (s[k].toNat : Int) := by omega
          go_wp2_with fail
          go_quiet (fail)
          go_wp2_with fail
          go_quiet (fail)
          go_wp2_with fail
          go_ret
          exact ⟨by rw [Hx.out, if_neg g1, if_pos g2]; rfl, by first | exact Wd.below_drewN hW _ | exact Wd.below_drewN (Wd.below_drewN hW _) _⟩
        · have gI : ¬ (s[k].toNat : Int) < (t[k].toNat : Int) := by omega
          have gJ : ¬ (t[k].toNat : Int) < (s[k].toNat : Int) := by omega
          go_wp2_with fail
          go_quiet (fail)
          go_wp2_with fail
          go_quiet (fail)
          go_wp2_with fail
          go_roundw
          case rel => exact ⟨k + 1, by go_num, by omega, by omega, Lib.hid (by rw [Hx.out, if_neg g1, if_neg g2]), Wd.below_drewN hW _⟩
          case measure => simp [intOf]; omega
      · have hI1 : (k : Int) < (s.size : Int) := by omega
        have hI2 : decide ((k : Int) < (t.size : Int)) = false := decide_eq_false (by omega)
        have hI3 : ¬ (s.size : Int) < (t.size : Int) := by omega
        have hI4 : (t.size : Int) < (s.size : Int) := by omega
        have hst : r = 1 := by rw [← hf.out, drop_all t k (by omega), cmpL_gt _ (drop_some s k h1)]
        have Hst := Lib.hid hst
        clear hst hf
        go_wp2_with fail
        go_ret
        exact ⟨by rw [Hst.out]; rfl, hW⟩
    · by_cases h2 : k < t.size
      · have hI1 : ¬ (k : Int) < (s.size : Int) := by omega
        have hI3 : (s.size : Int) < (t.size : Int) := by omega
        have hst : r = -1 := by rw [← hf.out, drop_all s k (by omega), cmpL_lt _ (drop_some t k h2)]
        have Hst := Lib.hid hst
        clear hst hf
        go_wp2_with fail
        go_ret
        exact ⟨by rw [Hst.out]; rfl, hW⟩
      · have hI1 : ¬ (k : Int) < (s.size : Int) := by omega
        have hI3 : ¬ (s.size : Int) < (t.size : Int) := by omega
        have hI4 : ¬ (t.size : Int) < (s.size : Int) := by omega
        have hst : r = 0 := by rw [← hf.out, drop_all s k (by omega), drop_all t k (by omega), cmpL_nil]
        have Hst := Lib.hid hst
        clear hst hf
        go_wp2_with fail
        go_ret
        exact ⟨by rw [Hst.out]; rfl, hW⟩

set_option maxHeartbeats 1000000 in
theorem refOrder_any (k i : Int) (s : ByteArray) (b : Bool) (k' i' : Int) (s' : ByteArray) (b' : Bool) (w : World) (hs : s.size ≤ maxLen) :
    Calls Tryz.prog 29 #[.agg #[.int .i64 k, .int .i64 i, .string s, .bool b], .agg #[.int .i64 k', .int .i64 i', .string s', .bool b']] w fun e w' => e = .returned (.int .i64 (ord ⟨k, i, s, b⟩ ⟨k', i', s', b'⟩)) ∧ Below w.heap.size w w' := by
  have Ct := Lib.hid fun w => text_any s s' w hs
  obtain ⟨r, hr⟩ : ∃ r, r = ord ⟨k, i, s, b⟩ ⟨k', i', s', b'⟩ := ⟨_, rfl⟩
  rw [← hr]
  have Hr := Lib.hid hr
  clear hr hs
  have hb0 : Below w.heap.size w ((w.alloc (.cells #[.int .i64 k, .int .i64 i, .string s, .bool b] 56)).alloc (.cells #[.int .i64 k', .int .i64 i', .string s', .bool b'] 56)) := ((Below.refl _ _).alloc (Nat.le_refl _) _).alloc (by simp) _
  have Hb := Lib.hid hb0
  clear hb0
  by_cases h1 : k < k'
  · go_enter Tryz.func29, Tryz.ntmps29
    go_wp2_with fail
    go_ret
    exact ⟨by rw [Hr.out]; unfold ord; rw [if_pos h1]; rfl, Hb.out⟩
  by_cases h2 : k' < k
  · go_enter Tryz.func29, Tryz.ntmps29
    go_wp2_with fail
    go_ret
    exact ⟨by rw [Hr.out]; unfold ord; rw [if_neg (by show ¬ k < k'; omega), if_pos h2]; rfl, Hb.out⟩
  obtain rfl : k = k' := by omega
  rw [ord_same (a := ⟨k, i, s, b⟩) (b := ⟨k, i', s', b'⟩) rfl] at Hr
  by_cases k1 : k = 1
  · subst k1
    simp only [if_true] at Hr
    by_cases g1 : i < i'
    · have e : cmpI i i' = -1 := by unfold cmpI; simp [g1, way]
      rw [e] at Hr
      clear e
      go_enter Tryz.func29, Tryz.ntmps29
      go_wp2_with fail
      go_ret
      exact ⟨by rw [Hr.out]; rfl, Hb.out⟩
    by_cases g2 : i' < i
    · have e : cmpI i i' = 1 := by unfold cmpI; simp [g1, g2, way]
      rw [e] at Hr
      clear e
      go_enter Tryz.func29, Tryz.ntmps29
      go_wp2_with fail
      go_ret
      exact ⟨by rw [Hr.out]; rfl, Hb.out⟩
    · have e : cmpI i i' = 0 := by unfold cmpI; simp [g1, g2, way]
      rw [e] at Hr
      clear e
      go_enter Tryz.func29, Tryz.ntmps29
      go_wp2_with fail
      go_ret
      exact ⟨by rw [Hr.out]; rfl, Hb.out⟩
  by_cases k2 : k = 2
  · subst k2
    simp only [show ¬ ((2 : Int) = 1) by omega, if_false, if_true] at Hr
    go_enter Tryz.func29, Tryz.ntmps29
    go_wp2_with fail
    refine (Ct.out _).mono ?_
    rintro e w5 ⟨rfl, hB5⟩
    go_wp2_with fail
    go_ret
    exact ⟨by rw [Hr.out]; rfl, Hb.out.trans (hB5.mono (by have := Hb.out.size; simpa using this))⟩
  by_cases k3 : k = 3
  · subst k3
    simp only [show ¬ ((3 : Int) = 1) by omega, show ¬ ((3 : Int) = 2) by omega, if_false, if_true] at Hr
    cases b <;> cases b'
    all_goals
      go_enter Tryz.func29, Tryz.ntmps29
      go_wp2_with fail
      go_ret
      exact ⟨by rw [Hr.out]; rfl, Hb.out⟩
  rw [if_neg k1, if_neg k2, if_neg k3] at Hr
  have q1 : (k == 1) = false := by simpa using k1
  have q2 : (k == 2) = false := by simpa using k2
  have q3 : (k == 3) = false := by simpa using k3
  clear k1 k2 k3
  go_enter Tryz.func29, Tryz.ntmps29
  go_wp2_with fail
  go_ret
  exact ⟨by rw [Hr.out]; rfl, Hb.out⟩
end Vc
end Go.Proofs.YtoibpbnebcoafaaGreat
