/- What value.May does, and the reference's May. What the reference of layer 6's Same does. What the reference of layer 6 does: May. What the reference of layer 6 does: text, Order. Over any program: an operation of a region that draws its order is taken first; the frame behind it stands written out. What the reference of layer 8 does: Find, Place, Rises, Search. What the reference of layer 7's Light does. What the reference of layer 8 does: Search; and few of the statements of layer 8. -/
import Derived.Laws.StructEq
import Derived.BigRegion
import Derived.Deep.RegionHeld3
import Derived.Deep.RegionWith
import Derived.BigQuiet
import Derived.Deep.QuietTactic
import Derived.WalkLawsBesides
import Derived.OrdersHeld
import Derived.IntWalk
import Derived.Test.YtfeolclpgilfdaaPk05
import Derived.Test.YtfeolclpgilfdaaPk02
import Derived.Test.YtfeolclpgilfdaaPk04
namespace Go.Proofs.Ytfeolclpgilfdaa
set_option maxRecDepth 20000
open Go.RowKit
namespace Vc
open Va
/-- May this value be? -/
def mayB (k i : Int) (s : ByteArray) (b : Bool) : Bool :=
  decide (k = 0 ∧ i = 0 ∧ s = ⟨#[]⟩ ∧ b = false) || decide (k = 1 ∧ s = ⟨#[]⟩ ∧ b = false) || decide (k = 2 ∧ i = 0 ∧ s.size ≤ 64 ∧ b = false) || decide (k = 3 ∧ i = 0 ∧ s = ⟨#[]⟩)
theorem mayB_iff (k i : Int) (s : ByteArray) (b : Bool) : mayB k i s b = true ↔ May ⟨k, i, s, b⟩ := by
  unfold mayB May
  simp [or_assoc]
theorem list_beq (s t : ByteArray) : (s.toList == t.toList) = decide (s = t) := by
  rw [ByteArray.toList_eq, ByteArray.toList_eq]
  by_cases h : s = t
  · subst h; simp
  · rw [decide_eq_false h]
    have : ¬ s.data.toList = t.data.toList := fun q => h (WideShapes.bytes_inj q)
    simpa using this
theorem eqV (k i : Int) (s : ByteArray) (b : Bool) (k' i' : Int) (s' : ByteArray) (b' : Bool) (w : World) :
    (Op.equalIn 10000 49 (.agg #[.int .i64 k, .int .i64 i, .string s, .bool b]) (.agg #[.int .i64 k', .int .i64 i', .string s', .bool b'])).run Try.prog w = .ok (decide (k = k' ∧ i = i' ∧ s = s' ∧ b = b')) w := by
  have u3 := Try.underlying3
  have u4 := Try.underlying4
  have u9 := Try.underlying9
  rw [show (10000 : Nat) = 9999 + 1 from rfl, run_equalIn_struct _ _ _ _ _ (by kernel_rfl) (by kernel_rfl)]
  rw [show (Try.prog.fieldsOf 49).toList = [{ name := "Kind", type := 3, offset := 0, embedded := false, tag := "", pkgPath := "", byteOffset := 0 }, { name := "I", type := 3, offset := 1, embedded := false, tag := "", pkgPath := "", byteOffset := 8 }, { name := "S", type := 9, offset := 2, embedded := false, tag := "", pkgPath := "", byteOffset := 16 }, { name := "B", type := 4, offset := 3, embedded := false, tag := "", pkgPath := "", byteOffset := 32 }] by kernel_rfl]
  have g := list_beq s s'
  by_cases h1 : k = k' <;> by_cases h2 : i = i' <;> by_cases h3 : s = s' <;> by_cases h4 : b = b' <;> simp [h3] at g <;> go_simp <;> simp_all
/-- What the program holds a value against. -/
theorem may_own {k i : Int} {s : ByteArray} {b : Bool} (h : k = 0 ∨ k = 1 ∨ k = 3 ∨ (k = 2 ∧ s.size ≤ 64)) : decide (k = k ∧ i = ownI k i ∧ s = ownS k s ∧ b = ownB k b) = mayB k i s b := by
  unfold mayB ownI ownS ownB
  rcases h with rfl | rfl | rfl | ⟨rfl, h⟩ <;> simp_all
theorem may_long {i : Int} {s : ByteArray} {b : Bool} (h : 64 < s.size) : mayB 2 i s b = false := by
  unfold mayB
  have : ¬ s.size ≤ 64 := by omega
  simp [this]
theorem may_else {k i : Int} {s : ByteArray} {b : Bool} (h0 : k ≠ 0) (h1 : k ≠ 1) (h2 : k ≠ 2) (h3 : k ≠ 3) : mayB k i s b = false := by
  unfold mayB
  simp [h0, h1, h2, h3]
set_option maxHeartbeats 2000000 in
theorem may_any (k i : Int) (s : ByteArray) (b : Bool) (w : World) :
    Calls Try.prog 60 #[.agg #[.int .i64 k, .int .i64 i, .string s, .bool b]] w fun e w' => e = .returned (.bool (mayB k i s b)) ∧ Below w.heap.size w w' := by
  by_cases hc : k = 0 ∨ k = 1 ∨ k = 3 ∨ (k = 2 ∧ s.size ≤ 64)
  · have heq := fun w => eqV k i s b k (ownI k i) (ownS k s) (ownB k b) w
    rw [may_own hc] at heq
    obtain ⟨r, hr⟩ : ∃ r, r = mayB k i s b := ⟨_, rfl⟩
    rw [← hr] at heq ⊢
    clear hr
    have hg : Try.prog.eqGuardType Try.prog.depth 49 = false := by kernel_rfl
    have Co := Lib.hid own_any
    rcases hc with rfl | rfl | rfl | ⟨rfl, hs⟩
    · go_enter Try.func60, Try.ntmps60
      go_wp2_with fail
      have hb0 := (Below.refl w.heap.size w).alloc (Nat.le_refl _) (.cells #[.int .i64 0, .int .i64 i, .string s, .bool b] 49)
      have v0 : Vb (w.alloc (.cells #[.int .i64 0, .int .i64 i, .string s, .bool b] 49)) w.heap.size 0 i s b := Wd.Bx.new w _ _
      generalize w.alloc (.cells #[.int .i64 0, .int .i64 i, .string s, .bool b] 49) = w1 at *
      have hl0 := Wd.Bx.lt v0
      obtain ⟨⟨u0, u1, u2, u3⟩, -⟩ := four v0
      go_region_with (first | (go_at_call 67; (with_reducible refine (Co.out _ _ _ _ _).mono ?_); rintro e w2 ⟨rfl, hB2⟩; have hb2 : Below w1.heap.size w1 w2 := Wd.of_drew hB2; obtain ⟨⟨_, _, _, _⟩, -⟩ := four (Wd.Bx.below v0 hl0 hb2)))
      all_goals (go_wp2_with fail; go_ret; exact ⟨rfl, hb0.trans (hb2.mono hb0.size)⟩)
    · go_enter Try.func60, Try.ntmps60
      go_wp2_with fail
      have hb0 := (Below.refl w.heap.size w).alloc (Nat.le_refl _) (.cells #[.int .i64 1, .int .i64 i, .string s, .bool b] 49)
      have v0 : Vb (w.alloc (.cells #[.int .i64 1, .int .i64 i, .string s, .bool b] 49)) w.heap.size 1 i s b := Wd.Bx.new w _ _
      generalize w.alloc (.cells #[.int .i64 1, .int .i64 i, .string s, .bool b] 49) = w1 at *
      have hl0 := Wd.Bx.lt v0
      obtain ⟨⟨u0, u1, u2, u3⟩, -⟩ := four v0
      go_region_with (first | (go_at_call 67; (with_reducible refine (Co.out _ _ _ _ _).mono ?_); rintro e w2 ⟨rfl, hB2⟩; have hb2 : Below w1.heap.size w1 w2 := Wd.of_drew hB2; obtain ⟨⟨_, _, _, _⟩, -⟩ := four (Wd.Bx.below v0 hl0 hb2)))
      all_goals (go_wp2_with fail; go_ret; exact ⟨rfl, hb0.trans (hb2.mono hb0.size)⟩)
    · go_enter Try.func60, Try.ntmps60
      go_wp2_with fail
      have hb0 := (Below.refl w.heap.size w).alloc (Nat.le_refl _) (.cells #[.int .i64 3, .int .i64 i, .string s, .bool b] 49)
      have v0 : Vb (w.alloc (.cells #[.int .i64 3, .int .i64 i, .string s, .bool b] 49)) w.heap.size 3 i s b := Wd.Bx.new w _ _
      generalize w.alloc (.cells #[.int .i64 3, .int .i64 i, .string s, .bool b] 49) = w1 at *
      have hl0 := Wd.Bx.lt v0
      obtain ⟨⟨u0, u1, u2, u3⟩, -⟩ := four v0
      go_region_with (first | (go_at_call 67; (with_reducible refine (Co.out _ _ _ _ _).mono ?_); rintro e w2 ⟨rfl, hB2⟩; have hb2 : Below w1.heap.size w1 w2 := Wd.of_drew hB2; obtain ⟨⟨_, _, _, _⟩, -⟩ := four (Wd.Bx.below v0 hl0 hb2)))
      all_goals (go_wp2_with fail; go_ret; exact ⟨rfl, hb0.trans (hb2.mono hb0.size)⟩)
    · have hsI : ¬ (64 : Int) < (s.size : Int) := by omega
      go_enter Try.func60, Try.ntmps60
      go_wp2_with fail
      have hb0 := (Below.refl w.heap.size w).alloc (Nat.le_refl _) (.cells #[.int .i64 2, .int .i64 i, .string s, .bool b] 49)
      have v0 : Vb (w.alloc (.cells #[.int .i64 2, .int .i64 i, .string s, .bool b] 49)) w.heap.size 2 i s b := Wd.Bx.new w _ _
      generalize w.alloc (.cells #[.int .i64 2, .int .i64 i, .string s, .bool b] 49) = w1 at *
      have hl0 := Wd.Bx.lt v0
      obtain ⟨⟨u0, u1, u2, u3⟩, -⟩ := four v0
      go_region_with (first | (go_at_call 67; (with_reducible refine (Co.out _ _ _ _ _).mono ?_); rintro e w2 ⟨rfl, hB2⟩; have hb2 : Below w1.heap.size w1 w2 := Wd.of_drew hB2; obtain ⟨⟨_, _, _, _⟩, -⟩ := four (Wd.Bx.below v0 hl0 hb2)))
      all_goals (go_wp2_with fail; go_ret; exact ⟨rfl, hb0.trans (hb2.mono hb0.size)⟩)
  · obtain ⟨r, hr⟩ : ∃ r, r = mayB k i s b := ⟨_, rfl⟩
    have hf : mayB k i s b = false := by
      by_cases h2 : k = 2
      · subst h2
        exact may_long (by omega)
      · exact may_else (by omega) (by omega) h2 (by omega)
    rw [hf]
    clear hr hf
    by_cases h2 : k = 2
    · subst h2
      have hsI : (64 : Int) < (s.size : Int) := by omega
      go_enter Try.func60, Try.ntmps60
      go_wp2_with fail
      go_ret
      exact ⟨rfl, (Below.refl _ _).alloc (Nat.le_refl _) _⟩
    · have q0 : (k == 0) = false := by simp; omega
      have q1 : (k == 1) = false := by simp; omega
      have q2 : (k == 2) = false := by simp; omega
      have q3 : (k == 3) = false := by simp; omega
      clear hc h2
      go_enter Try.func60, Try.ntmps60
      go_wp2_with fail
      go_ret
      exact ⟨rfl, (Below.refl _ _).alloc (Nat.le_refl _) _⟩
end Vc
end Go.Proofs.Ytfeolclpgilfdaa
namespace Go.Proofs.Ytfeolclpgilfdaa
set_option maxRecDepth 20000
open Go.RowKit
namespace Sx
open Sc (tr tr_yes tr_no)
open Va (Vl May)
def LightS (vs : List Vl) : Prop := vs.length ≤ 12 ∧ ∀ i, i < vs.length → (vs.getD i default).s.size ≤ 300
theorem eq_get {vs us : List Vl} (hl : vs.length = us.length) (h : ∀ i, i < vs.length → vs.getD i default = us.getD i default) : vs = us := by
  apply List.ext_getElem hl
  intro i h1 h2
  have := h i h1
  simpa [List.getD, List.getElem?_eq_getElem h1, List.getElem?_eq_getElem h2] using this
set_option maxHeartbeats 2000000 in
theorem sameV_any (R : Option Addr) (m d : Nat) (vs : List Vl) (T : Option Addr) (p q : Nat) (us : List Vl) (w : World) (hV : Wd.Vs w R m d vs) (hU : Wd.Vs w T p q us) :
    Calls Try.prog 18 #[.slice R m d, .slice T p q] w fun e w' => e = .returned (.bool (tr (vs = us))) ∧ Below w.heap.size w w' := by
  have Hm := Lib.hid hV.len
  have Hp := Lib.hid hU.len
  have HV := Lib.hid hV
  have HU := Lib.hid hU
  have hcap := hV.cap
  have hmx := hV.max
  unfold maxLen at hmx
  have hcapq := hU.cap
  obtain ⟨r, hr⟩ : ∃ r, r = tr (vs = us) := ⟨_, rfl⟩
  rw [← hr]
  have Hr := Lib.hid hr
  clear hr hV hU
  by_cases hmp : m = p
  case neg =>
    have e : r = false := by rw [Hr.out]; exact tr_no fun h => hmp (by rw [Hm.out, Hp.out, h])
    subst e
    have qm : ((m : Int) != (p : Int)) = true := by simp; omega
    clear hmp
    go_enter Try.func18, Try.ntmps18
    go_wp2_with fail
    go_ret
    exact ⟨rfl, Below.refl _ _⟩
  subst hmp
  have hgt : Try.prog.eqGuardType Try.prog.depth 49 = false := by kernel_rfl
  go_enter Try.func18, Try.ntmps18
  go_wp2
  go_loopw [5] (fun i wr => ∃ k : Nat, i = .int .i64 k ∧ k ≤ m ∧ Hid (∀ j, j < k → vs.getD j default = us.getD j default) ∧ Below w.heap.size w wr) (fun i _ => m - (intOf i).toNat)
  case atStart => exact ⟨0, rfl, Nat.zero_le _, Lib.hid (fun j hj => by omega), Below.refl _ _⟩
  case round =>
    obtain ⟨k, rfl, hk, hf, hB⟩ := hrel
    by_cases hlt : k < m
    · obtain ⟨e, f, hR, heB, d0, d1, d2, d3, _⟩ := (HV.out.below hB).cells (j := k) (by rw [← Hm.out]; exact hlt) rfl
      subst hR
      obtain ⟨v, hv⟩ : ∃ v, v = vs.getD k default := ⟨_, rfl⟩
      rw [← hv] at d0 d1 d2 d3
      obtain ⟨e', f', hT, heB', u0, u1, u2, u3, _⟩ := (HU.out.below hB).cells (j := k) (by rw [← Hp.out]; exact hlt) rfl
      subst hT
      obtain ⟨u, hu⟩ : ∃ u, u = us.getD k default := ⟨_, rfl⟩
      rw [← hu] at u0 u1 u2 u3
      have Hv := Lib.hid hv
      have Hu := Lib.hid hu
      clear hv hu
      have heq := fun w => Vc.eqV v.kind v.i v.s v.b u.kind u.i u.s u.b w
      by_cases hz : v = u
      · subst hz
        rw [decide_eq_true (by simp)] at heq
        go_wp2_with fail
        go_quiet (fail)
        go_wp2_with fail
        go_roundw
        case rel =>
          refine ⟨k + 1, by go_num, by omega, Lib.hid fun j hj => ?_, Wd.below_drewN hB _⟩
          by_cases hjk : j = k
          · rw [hjk, ← Hv.out, ← Hu.out]
          · exact hf.out j (by omega)
        case measure => simp [intOf]; omega
      · have e : r = false := by rw [Hr.out]; exact tr_no fun h => hz (by rw [Hv.out, Hu.out, h])
        rw [decide_eq_false (fun h => hz (by cases v; cases u; simp_all))] at heq
        have He := Lib.hid e
        clear e hz
        go_wp2_with fail
        go_quiet (fail)
        go_wp2_with fail
        go_ret
        exact ⟨by rw [He.out]; rfl, Wd.below_drewN hB _⟩
    · have hkI : ¬ (k : Int) < m := by omega
      have e : r = true := by
        rw [Hr.out]
        exact tr_yes (eq_get (by rw [← Hm.out, ← Hp.out]) fun i hi => hf.out i (by have := Hm.out; omega))
      have He := Lib.hid e
      clear e hf
      go_wp2_with fail
      go_ret
      exact ⟨by rw [He.out]; rfl, hB⟩
end Sx
end Go.Proofs.Ytfeolclpgilfdaa
namespace Go.Proofs.Ytfeolclpgilfdaa
set_option maxRecDepth 20000
open Go.RowKit
namespace Vc
open Va
theorem empty_list (s : ByteArray) : s.toList = [] ↔ s = ⟨#[]⟩ := by
  have := list_beq s ⟨#[]⟩
  rw [show (⟨#[]⟩ : ByteArray).toList = [] by rw [ByteArray.toList_eq]] at this
  constructor
  · intro h; rw [h] at this; simpa using this.symm
  · intro h; subst h; rw [ByteArray.toList_eq]
theorem empty_isEmpty (s : ByteArray) : s.toList.isEmpty = decide (s = ⟨#[]⟩) := by
  rw [Bool.eq_iff_iff]; simp [empty_list]
set_option maxHeartbeats 1000000 in
theorem refMay_any (k i : Int) (s : ByteArray) (b : Bool) (w : World) :
    Calls Try.prog 53 #[.agg #[.int .i64 k, .int .i64 i, .string s, .bool b]] w fun e w' => e = .returned (.bool (mayB k i s b)) ∧ Below w.heap.size w w' := by
  obtain ⟨r, hr⟩ : ∃ r, r = mayB k i s b := ⟨_, rfl⟩
  rw [← hr]
  have Hr := Lib.hid hr
  clear hr
  by_cases h0 : k = 0
  · subst h0
    go_enter Try.func53, Try.ntmps53
    go_wp2_with fail
    all_goals (go_ret; refine ⟨by rw [Hr.out]; simp_all [mayB, empty_list, empty_isEmpty]; try omega, (Below.refl _ _).alloc (Nat.le_refl _) _⟩)
  by_cases h1 : k = 1
  · subst h1
    go_enter Try.func53, Try.ntmps53
    go_wp2_with fail
    all_goals (go_ret; refine ⟨by rw [Hr.out]; simp_all [mayB, empty_list, empty_isEmpty]; try omega, (Below.refl _ _).alloc (Nat.le_refl _) _⟩)
  by_cases h2 : k = 2
  · subst h2
    go_enter Try.func53, Try.ntmps53
    go_wp2_with fail
    all_goals (go_ret; refine ⟨by rw [Hr.out]; simp_all [mayB, empty_isEmpty]; try omega, (Below.refl _ _).alloc (Nat.le_refl _) _⟩)
  by_cases h3 : k = 3
  · subst h3
    go_enter Try.func53, Try.ntmps53
    go_wp2_with fail
    all_goals (go_ret; refine ⟨by rw [Hr.out]; simp_all [mayB, empty_isEmpty]; try omega, (Below.refl _ _).alloc (Nat.le_refl _) _⟩)
  have q0 : (k == 0) = false := by simpa using h0
  have q1 : (k == 1) = false := by simpa using h1
  have q2 : (k == 2) = false := by simpa using h2
  have q3 : (k == 3) = false := by simpa using h3
  have hf := may_else (i := i) (s := s) (b := b) h0 h1 h2 h3
  have Hf := Lib.hid hf
  clear hf h0 h1 h2 h3
  go_enter Try.func53, Try.ntmps53
  go_wp2_with fail
  go_ret
  exact ⟨by rw [Hr.out, Hf.out]; rfl, (Below.refl _ _).alloc (Nat.le_refl _) _⟩
end Vc
end Go.Proofs.Ytfeolclpgilfdaa
namespace Go.Proofs.Ytfeolclpgilfdaa
set_option maxRecDepth 20000
open Go.RowKit
namespace Vc
open Va
def cmpL (x y : List UInt8) : Int := way (Op.bytesLess x y) (Op.bytesLess y x)
theorem cmpS_eq (s t : ByteArray) : cmpS s t = cmpL s.toList t.toList := rfl
theorem cmpL_nil : cmpL [] [] = 0 := by simp [cmpL, Op.bytesLess, way]
theorem cmpL_lt (y : List UInt8) (h : y ≠ []) : cmpL [] y = -1 := by
  cases y with
  | nil => exact absurd rfl h
  | cons a y => simp [cmpL, Op.bytesLess, way]
theorem cmpL_gt (x : List UInt8) (h : x ≠ []) : cmpL x [] = 1 := by
  cases x with
  | nil => exact absurd rfl h
  | cons a x => simp [cmpL, Op.bytesLess, way]
theorem cmpL_cons (a b : UInt8) (x y : List UInt8) : cmpL (a :: x) (b :: y) = if a.toNat < b.toNat then -1 else if b.toNat < a.toNat then 1 else cmpL x y := by
  unfold cmpL
  rw [Op.bytesLess, Op.bytesLess]
  by_cases h1 : a < b
  · have h1' : a.toNat < b.toNat := UInt8.lt_iff_toNat_lt.1 h1
    simp [h1, h1', way]
  · have h1' : ¬ a.toNat < b.toNat := fun q => h1 (UInt8.lt_iff_toNat_lt.2 q)
    by_cases h2 : b < a
    · have h2' : b.toNat < a.toNat := UInt8.lt_iff_toNat_lt.1 h2
      have h3 : ¬ a = b := fun q => by rw [q] at h2'; omega
      simp [h1, h2, h1', h2', h3, way]
    · have h2' : ¬ b.toNat < a.toNat := fun q => h2 (UInt8.lt_iff_toNat_lt.2 q)
      have h3 : a = b := UInt8.toNat_inj.1 (by omega)
      subst h3
      simp [h1]
theorem drop_byte (s : ByteArray) (k : Nat) (h : k < s.size) : s.toList.drop k = s[k] :: s.toList.drop (k + 1) := by
  rw [ByteArray.toList_eq]
  have : k < s.data.toList.length := by simpa using h
  rw [List.drop_eq_getElem_cons this]
  rfl
theorem drop_all (s : ByteArray) (k : Nat) (h : s.size ≤ k) : s.toList.drop k = [] := by
  rw [ByteArray.toList_eq]
  exact List.drop_of_length_le (by simpa using h)
theorem drop_some (s : ByteArray) (k : Nat) (h : k < s.size) : s.toList.drop k ≠ [] := by rw [drop_byte s k h]; simp

end Vc
end Go.Proofs.Ytfeolclpgilfdaa
namespace Go.Proofs.Ytfeolclpgilfdaa
set_option maxRecDepth 20000
namespace Rt
theorem take {P : Program} {md : Region.Mode} {ops : Array Oper} {Q : Exit → Act → World → Prop} {S : World → Prop} {i d : Nat} {oi : Oper} {v : Value} {fuel : Nat} {listed : Array Bool} {a : Act} {w : World} (hi : ops[i]? = some oi) (hd : oi.dst = some d)
    (hs : Region.noSelect ops = true) (hf : Region.free md ops listed i = true) (hr : (Region.ready md ops listed).contains i = true)
    (hQ : ∀ c a w, Q (.panic c) (a.put oi.dst v) w → Q (.panic c) a w) (hy : YieldsIf P ops S oi v a) (hS : S w)
    (h : wpAnyH P md ops Q S fuel (listed.setIfInBounds i true) { tmps := a.tmps.setIfInBounds d v, defers := a.defers } w) : wpAnyH P md ops Q S (fuel + 1) listed a w :=
  wpAnyH_take hi hs hf hr hQ hy hS (by rw [hd]; exact h)
end Rt
end Go.Proofs.Ytfeolclpgilfdaa
namespace Go.Proofs.Ytfeolclpgilfdaa
set_option maxRecDepth 20000
open Go.RowKit
namespace Dc
open Va (Vl May ord)
open Sc (tr tr_yes tr_no)
theorem getD_at {vs : List Vl} {k : Nat} (h : k < vs.length) : vs[k]? = some (vs.getD k default) := by simp [List.getD, List.getElem?_eq_getElem h]
theorem getD_mem {vs : List Vl} {k : Nat} (h : k < vs.length) : vs.getD k default ∈ vs := List.mem_of_getElem? (getD_at h)
theorem drop_at {vs : List Vl} {k : Nat} (h : k < vs.length) : vs.drop k = vs.getD k default :: vs.drop (k + 1) := by
  rw [List.getD_eq_getElem?_getD, List.getElem?_eq_getElem h]
  exact List.drop_eq_getElem_cons h
theorem fnd_step {vs : List Vl} {v : Vl} {k : Nat} (h : k < vs.length) : fndF (vs.drop k) v (k : Int) = if vs.getD k default = v then (k : Int) else fndF (vs.drop (k + 1)) v ((k + 1 : Nat) : Int) := by
  rw [drop_at h, fndF]
  by_cases q : vs.getD k default = v
  · rw [if_pos q, if_pos q]
  · rw [if_neg q, if_neg q]
    rfl
theorem place_take {vs : List Vl} {v : Vl} {k : Nat} (h : k < vs.length) : place (vs.take (k + 1)) v = place (vs.take k) v + (if ord (vs.getD k default) v < 0 then 1 else 0) := by
  rw [List.take_add_one, getD_at h]
  unfold place
  rw [List.countP_append]
  simp [List.countP_cons]
theorem ris_iff (vs : List Vl) : Ris vs ↔ ∀ i, i < vs.length → May (vs.getD i default) ∧ (0 < i → ord (vs.getD (i - 1) default) (vs.getD i default) < 0) := by
  constructor
  · intro h i hi
    refine ⟨h.1 _ (getD_mem hi), fun h0 => ?_⟩
    have := (List.pairwise_iff_getElem.1 h.2) (i - 1) i (by omega) hi (by omega)
    simpa [List.getD, List.getElem?_eq_getElem hi, List.getElem?_eq_getElem (show i - 1 < vs.length by omega)] using this
  · intro h
    refine ⟨fun x hx => ?_, ?_⟩
    · obtain ⟨i, hi⟩ := List.getElem?_of_mem hx
      have hl := (List.getElem?_eq_some_iff.1 hi).1
      have := (h i hl).1
      rw [getD_at hl] at hi
      rw [Option.some.inj hi] at this
      exact this
    · have key : ∀ (n i : Nat), i + (n + 1) < vs.length → ord (vs.getD i default) (vs.getD (i + (n + 1)) default) < 0 := by
        intro n
        induction n with
        | zero => intro i hi; simpa using (h (i + 1) (by omega)).2 (by omega)
        | succ n ih =>
          intro i hi
          have h1 := ih i (by omega)
          have h2 := (h (i + (n + 1 + 1)) hi).2 (by omega)
          rw [show i + (n + 1 + 1) - 1 = i + (n + 1) by omega] at h2
          exact lt_trans h1 h2
      unfold Up
      rw [List.pairwise_iff_getElem]
      intro i j hi hj hij
      have := key (j - i - 1) i (by omega)
      rw [show i + (j - i - 1 + 1) = j by omega] at this
      simpa [List.getD, List.getElem?_eq_getElem hi, List.getElem?_eq_getElem hj] using this
end Dc
namespace Dx
open Va (Vl May ord)
open Vc (mayB mayB_iff refMay_any)
open Sc (tr tr_yes tr_no tr_iff)
open Dc
set_option maxHeartbeats 4000000 in
theorem refFind_any (R : Option Addr) (m d : Nat) (vs : List Vl) (k i : Int) (s : ByteArray) (b : Bool) (w : World) (hV : Wd.Vs w R m d vs) :
    Calls Try.prog 37 #[.slice R m d, .agg #[.int .i64 k, .int .i64 i, .string s, .bool b]] w fun e w' => e = .returned (.int .i64 (fnd vs ⟨k, i, s, b⟩)) ∧ Below w.heap.size w w' := by
  have hb0 := (Below.refl w.heap.size w).alloc (Nat.le_refl _) (.cells #[.int .i64 k, .int .i64 i, .string s, .bool b] 49)
  have x0 : Vc.Vb (w.alloc (.cells #[.int .i64 k, .int .i64 i, .string s, .bool b] 49)) w.heap.size k i s b := Wd.Bx.new w _ _
  have Hm := Lib.hid hV.len
  have HV := Lib.hid (hV.below hb0)
  have hcap := hV.cap
  have hmx := hV.max
  unfold maxLen at hmx
  obtain ⟨F, hF⟩ : ∃ F, F = fnd vs ⟨k, i, s, b⟩ := ⟨_, rfl⟩
  rw [← hF]
  have HF := Lib.hid hF
  clear hV hF
  have hgt : Try.prog.eqGuardType Try.prog.depth 49 = false := by kernel_rfl
  have Hx0 := Lib.hid x0
  clear x0
  go_enter Try.func37, Try.ntmps37
  go_wp2
  generalize w.alloc (.cells #[.int .i64 k, .int .i64 i, .string s, .bool b] 49) = wa at *
  have hl0 := Wd.Bx.lt Hx0.out
  go_loopw [5] (fun j wr => ∃ n : Nat, j = .int .i64 n ∧ n ≤ m ∧ Hid (fndF (vs.drop n) ⟨k, i, s, b⟩ (n : Int) = F) ∧ Below wa.heap.size wa wr) (fun j _ => m - (intOf j).toNat)
  case atStart => exact ⟨0, rfl, Nat.zero_le _, Lib.hid (by rw [HF.out]; rfl), Below.refl _ _⟩
  case round =>
    obtain ⟨n, rfl, hn, hf, hB⟩ := hrel
    obtain ⟨⟨y0, y1, y2, y3⟩, -⟩ := Vc.four (Hx0.out.below hl0 hB)
    by_cases hlt : n < m
    · obtain ⟨e, f, hR, heB, d0, d1, d2, d3, _⟩ := (HV.out.below hB).cells (j := n) (by rw [← Hm.out]; exact hlt) rfl
      subst hR
      have hst := fnd_step (vs := vs) (v := ⟨k, i, s, b⟩) (k := n) (by rw [← Hm.out]; exact hlt)
      rw [hf.out] at hst
      obtain ⟨v, hv⟩ : ∃ v, v = vs.getD n default := ⟨_, rfl⟩
      rw [← hv] at d0 d1 d2 d3 hst
      clear hv hf
      have heq := fun w => Vc.eqV v.kind v.i v.s v.b k i s b w
      by_cases hz : v = ⟨k, i, s, b⟩
      · rw [if_pos hz] at hst
        subst hz
        have HF2 := Lib.hid hst
        rw [decide_eq_true (by simp)] at heq
        clear hst
        go_wp2_with fail
        go_quiet (fail)
        go_wp2_with fail
        go_ret
        exact ⟨by rw [HF2.out]; rfl, hb0.trans ((Wd.below_drewN hB _).mono hb0.size)⟩
      · rw [if_neg hz] at hst
        have HF2 := Lib.hid hst.symm
        rw [decide_eq_false (fun h => hz (by obtain ⟨k1, i1, s1, b1⟩ := v; simp only [] at h; obtain ⟨rfl, rfl, rfl, rfl⟩ := h; rfl))] at heq
        clear hst hz
        go_wp2_with fail
        go_quiet (fail)
        go_wp2_with fail
        go_roundw
        case rel => exact ⟨n + 1, by go_num, by omega, HF2, Wd.below_drewN hB _⟩
        case measure => simp [intOf]; omega
    · have hkI : ¬ (n : Int) < m := by omega
      have e : F = -1 := by
        have := hf.out
        rw [List.drop_of_length_le (by rw [← Hm.out]; omega)] at this
        exact this.symm
      have He := Lib.hid e
      clear e hf
      go_wp2_with fail
      go_ret
      exact ⟨by rw [He.out]; rfl, hb0.trans (hB.mono hb0.size)⟩
end Dx
end Go.Proofs.Ytfeolclpgilfdaa
namespace Go.Proofs.Ytfeolclpgilfdaa
set_option maxRecDepth 20000
open Go.RowKit
namespace Sx
open Sc (tr tr_yes tr_no)
open Va (Vl May)
set_option maxHeartbeats 1000000 in
theorem Light_any (R : Option Addr) (m d : Nat) (vs : List Vl) (w : World) (hV : Wd.Vs w R m d vs) :
    Calls Try.prog 24 #[.slice R m d] w fun e w' => e = .returned (.bool (tr (LightS vs))) ∧ w' = w := by
  have Hm := Lib.hid hV.len
  have HV := Lib.hid hV
  have hcap := hV.cap
  obtain ⟨r, hr⟩ : ∃ r, r = tr (LightS vs) := ⟨_, rfl⟩
  rw [← hr]
  have Hr := Lib.hid hr
  clear hr hV
  by_cases h12 : 12 < m
  · have e : r = false := by rw [Hr.out]; exact tr_no fun h => by have := h.1; have := Hm.out; omega
    subst e
    have q1 : (12 : Int) < (m : Int) := by omega
    clear h12
    go_enter Try.func24, Try.ntmps24
    go_wp2_with fail
    go_ret
    exact ⟨rfl, rfl⟩
  have q1 : ¬ (12 : Int) < (m : Int) := by omega
  go_enter Try.func24, Try.ntmps24
  go_wp2
  go_loopw [3] (fun i wr => ∃ k : Nat, i = .int .i64 k ∧ k ≤ m ∧ Hid (∀ j, j < k → (vs.getD j default).s.size ≤ 300) ∧ wr = w) (fun i _ => m - (intOf i).toNat)
  case atStart => exact ⟨0, rfl, Nat.zero_le _, Lib.hid (fun j hj => by omega), rfl⟩
  case round =>
    obtain ⟨k, rfl, hk, hf, rfl⟩ := hrel
    by_cases hlt : k < m
    · obtain ⟨e, f, hR, heB, d0, d1, d2, d3, _⟩ := HV.out.cells (j := k) (by rw [← Hm.out]; exact hlt) rfl
      subst hR
      obtain ⟨x, hx⟩ : ∃ x, x = (vs.getD k default).s := ⟨_, rfl⟩
      rw [← hx] at d2
      have Hx := Lib.hid hx
      clear hx d0 d1 d3
      by_cases hz : 300 < x.size
      · have e : r = false := by rw [Hr.out]; exact tr_no fun h => by have := h.2 k (by rw [← Hm.out]; exact hlt); rw [← Hx.out] at this; omega
        have He := Lib.hid e
        have hzI : (300 : Int) < (x.size : Int) := by omega
        clear e
        go_wp2_with fail
        go_ret
        exact ⟨by rw [He.out]; rfl, rfl⟩
      · have hzI : ¬ (300 : Int) < (x.size : Int) := by omega
        go_wp2_with fail
        go_roundw
        case rel =>
          refine ⟨k + 1, by go_num, by omega, Lib.hid fun j hj => ?_, by first | rfl | trivial⟩
          by_cases hjk : j = k
          · rw [hjk, ← Hx.out]; omega
          · exact hf.out j (by omega)
        case measure => simp [intOf]; omega
    · have hkI : ¬ (k : Int) < m := by omega
      have e : r = true := by
        rw [Hr.out]
        exact tr_yes ⟨by have := Hm.out; omega, fun i hi => hf.out i (by have := Hm.out; omega)⟩
      have He := Lib.hid e
      clear e hf
      go_wp2_with fail
      go_ret
      exact ⟨by rw [He.out]; rfl, rfl⟩
end Sx
end Go.Proofs.Ytfeolclpgilfdaa
namespace Go.Proofs.Ytfeolclpgilfdaa
set_option maxRecDepth 20000
open Go.RowKit
namespace Dx
open Va (Vl May ord)
open Vc (mayB mayB_iff refMay_any)
open Sc (tr tr_yes tr_no tr_iff)
open Dc
/-- What Search answers. -/
noncomputable def schN (l : List Vl) (v : Vl) : Int := if tr (May v ∧ Ris l) = true then (place l v : Int) else 0
noncomputable def schB (l : List Vl) (v : Vl) : Bool := tr (May v ∧ Ris l ∧ v ∈ l)
/-- Are there at most 100 values, of texts of at most 300 bytes? -/
def FewV (vs : List Vl) : Prop := vs.length ≤ 100 ∧ ∀ i, i < vs.length → (vs.getD i default).s.size ≤ 300
theorem light1 (x : Vl) : Sx.LightS [x] ↔ x.s.size ≤ 300 := by
  constructor
  · intro h
    exact h.2 0 (by simp)
  · intro h
    exact ⟨by simp, fun i hi => by
      obtain rfl : i = 0 := by simpa using hi
      exact h⟩
/-- One value of a slice of values, as a slice. -/
theorem vs_one {w : World} {b o n c : Nat} {vs : List Vl} (h : Wd.Vs w (some ⟨b, o, none⟩) n c vs) {k : Nat} (hk : k < vs.length) : Wd.Vs w (some ⟨b, o + k * 4, none⟩) 1 (c - k) [vs.getD k default] := by
  have hl := h.len
  have hc := h.cap
  have hm := h.max
  refine ⟨rfl, by omega, by omega, by simp, fun j hj => ?_⟩
  obtain rfl : j = 0 := by simpa using hj
  obtain ⟨b', o', e, hlt, hcell, h1⟩ := h.at_ k hk
  obtain ⟨rfl, rfl⟩ : b = b' ∧ o = o' := by cases e; exact ⟨rfl, rfl⟩
  exact ⟨b, o + k * 4, rfl, hlt, fun i v hv => by have := hcell i v hv; rw [show o + k * 4 + (0 * 4 + i) = o + (k * 4 + i) by omega]; exact this, h1⟩
end Dx
end Go.Proofs.Ytfeolclpgilfdaa
