/- What the reference of layer 8 does: Find, Place, Rises, Search. -/
import Derived.Deep.RegionWith
import Derived.Deep.RegionHeld3
import Derived.BigRegion
import Derived.IntWalk
import Derived.BigQuiet
import Derived.Deep.QuietTactic
import Derived.Test.YtaoeipehpakngaaGreatDoorPa03
import Derived.Test.YtaoeipehpakngaaGreatDoorPa12
import Derived.Test.YtaoeipehpakngaaGreatDoorPa09
import Derived.Test.YtaoeipehpakngaaGreatDoorPa10
namespace Go.Proofs.YtaoeipehpakngaaGreatDoor
set_option maxRecDepth 20000
open Go.RowKit
namespace Dc
open Va (Vl May ord)
open Sc (tr tr_yes tr_no)
theorem getD_at {vs : List Vl} {k : Nat} (h : k < vs.length) : vs[k]? = some (vs.getD k default) := by simp [List.getD, List.getElem?_eq_getElem h]
theorem getD_mem {vs : List Vl} {k : Nat} (h : k < vs.length) : vs.getD k default ∈ vs := List.mem_of_getElem? (getD_at h)
theorem drop_at {vs : List Vl} {k : Nat} (h : k < vs.length) : vs.drop k = vs.getD k default :: vs.drop (k + 1) := by
  rw [List.getD_eq_getElem?_getD, List.getElem?_eq_getElem h]
  exact List.drop_eq_getElem_cons h
theorem fnd_step {vs : List Vl} {v : Vl} {k : Nat} (h : k < vs.length) : fndF (vs.drop k) v (k : Int) = if vs.getD k default = v then (k : Int) else fndF (vs.drop (k + 1)) v ((k + 1 : Nat) : Int) := by
  rw [drop_at h, fndF]
  by_cases q : vs.getD k default = v
  · rw [if_pos q, if_pos q]
  · rw [if_neg q, if_neg q]
    rfl
theorem place_take {vs : List Vl} {v : Vl} {k : Nat} (h : k < vs.length) : place (vs.take (k + 1)) v = place (vs.take k) v + (if ord (vs.getD k default) v < 0 then 1 else 0) := by
  rw [List.take_add_one, getD_at h]
  unfold place
  rw [List.countP_append]
  simp [List.countP_cons]
theorem ris_iff (vs : List Vl) : Ris vs ↔ ∀ i, i < vs.length → May (vs.getD i default) ∧ (0 < i → ord (vs.getD (i - 1) default) (vs.getD i default) < 0) := by
  constructor
  · intro h i hi
    refine ⟨h.1 _ (getD_mem hi), fun h0 => ?_⟩
    have := (List.pairwise_iff_getElem.1 h.2) (i - 1) i (by omega) hi (by omega)
    simpa [List.getD, List.getElem?_eq_getElem hi, List.getElem?_eq_getElem (show i - 1 < vs.length by omega)] using this
  · intro h
    refine ⟨fun x hx => ?_, ?_⟩
    · obtain ⟨i, hi⟩ := List.getElem?_of_mem hx
      have hl := (List.getElem?_eq_some_iff.1 hi).1
      have := (h i hl).1
      rw [getD_at hl] at hi
      rw [Option.some.inj hi] at this
      exact this
    · have key : ∀ (n i : Nat), i + (n + 1) < vs.length → ord (vs.getD i default) (vs.getD (i + (n + 1)) default) < 0 := by
        intro n
        induction n with
        | zero => intro i hi; simpa using (h (i + 1) (by omega)).2 (by omega)
        | succ n ih =>
          intro i hi
          have h1 := ih i (by omega)
          have h2 := (h (i + (n + 1 + 1)) hi).2 (by omega)
          rw [show i + (n + 1 + 1) - 1 = i + (n + 1) by omega] at h2
          exact lt_trans h1 h2
      unfold Up
      rw [List.pairwise_iff_getElem]
      intro i j hi hj hij
      have := key (j - i - 1) i (by omega)
      rw [show i + (j - i - 1 + 1) = j by omega] at this
      simpa [List.getD, List.getElem?_eq_getElem hi, List.getElem?_eq_getElem hj] using this
end Dc
namespace Dx
open Va (Vl May ord)
open Vc (mayB mayB_iff refMay_any refOrder_any)
open Sc (tr tr_yes tr_no tr_iff)
open Dc
set_option maxHeartbeats 4000000 in
theorem refFind_any (R : Option Addr) (m d : Nat) (vs : List Vl) (k i : Int) (s : ByteArray) (b : Bool) (w : World) (hV : Wd.Vs w R m d vs) :
    Calls Tryz.prog 71 #[.slice R m d, .agg #[.int .i64 k, .int .i64 i, .string s, .bool b]] w fun e w' => e = .returned (.int .i64 (fnd vs ⟨k, i, s, b⟩)) ∧ Below w.heap.size w w' := by
  have hb0 := (Below.refl w.heap.size w).alloc (Nat.le_refl _) (.cells #[.int .i64 k, .int .i64 i, .string s, .bool b] 47)
  have x0 : Vc.Vb (w.alloc (.cells #[.int .i64 k, .int .i64 i, .string s, .bool b] 47)) w.heap.size k i s b := Wd.Bx.new w _ _
  have Hm := Lib.hid hV.len
  have HV := Lib.hid (hV.below hb0)
  have hcap := hV.cap
  have hmx := hV.max
  unfold maxLen at hmx
  obtain ⟨F, hF⟩ : ∃ F, F = fnd vs ⟨k, i, s, b⟩ := ⟨_, rfl⟩
  rw [← hF]
  have HF := Lib.hid hF
  clear hV hF
  have hgt : Tryz.prog.eqGuardType Tryz.prog.depth 47 = false := by kernel_rfl
  have Hx0 := Lib.hid x0
  clear x0
  go_enter Tryz.func71, Tryz.ntmps71
  go_wp2
  generalize w.alloc (.cells #[.int .i64 k, .int .i64 i, .string s, .bool b] 47) = wa at *
  have hl0 := Wd.Bx.lt Hx0.out
  go_loopw [5] (fun j wr => ∃ n : Nat, j = .int .i64 n ∧ n ≤ m ∧ Hid (fndF (vs.drop n) ⟨k, i, s, b⟩ (n : Int) = F) ∧ Below wa.heap.size wa wr) (fun j _ => m - (intOf j).toNat)
  case atStart => exact ⟨0, rfl, Nat.zero_le _, Lib.hid (by rw [HF.out]; rfl), Below.refl _ _⟩
  case round =>
    obtain ⟨n, rfl, hn, hf, hB⟩ := hrel
    obtain ⟨⟨y0, y1, y2, y3⟩, -⟩ := Vc.four (Hx0.out.below hl0 hB)
    by_cases hlt : n < m
    · obtain ⟨e, f, hR, heB, d0, d1, d2, d3, _⟩ := (HV.out.below hB).cells (j := n) (by rw [← Hm.out]; exact hlt) rfl
      subst hR
      have hst := fnd_step (vs := vs) (v := ⟨k, i, s, b⟩) (k := n) (by rw [← Hm.out]; exact hlt)
      rw [hf.out] at hst
      obtain ⟨v, hv⟩ : ∃ v, v = vs.getD n default := ⟨_, rfl⟩
      rw [← hv] at d0 d1 d2 d3 hst
      clear hv hf
      have heq := fun w => Vc.eqV v.kind v.i v.s v.b k i s b w
      by_cases hz : v = ⟨k, i, s, b⟩
      · rw [if_pos hz] at hst
        subst hz
        have HF2 := Lib.hid hst
        rw [decide_eq_true (by simp)] at heq
        clear hst
        go_wp2_with fail
        go_quiet (fail)
        go_wp2_with fail
        go_ret
        exact ⟨by rw [HF2.out]; rfl, hb0.trans ((Wd.below_drewN hB _).mono hb0.size)⟩
      · rw [if_neg hz] at hst
        have HF2 := Lib.hid hst.symm
        rw [decide_eq_false (fun h => hz (by obtain ⟨k1, i1, s1, b1⟩ := v; simp only [] at h; obtain ⟨rfl, rfl, rfl, rfl⟩ := h; rfl))] at heq
        clear hst hz
        go_wp2_with fail
        go_quiet (fail)
        go_wp2_with fail
        go_roundw
        case rel => exact ⟨n + 1, by go_num, by omega, HF2, Wd.below_drewN hB _⟩
        case measure => simp [intOf]; omega
    · have hkI : ¬ (n : Int) < m := by omega
      have e : F = -1 := by
        have := hf.out
        rw [List.drop_of_length_le (by rw [← Hm.out]; omega)] at this
        exact this.symm
      have He := Lib.hid e
      clear e hf
      go_wp2_with fail
      go_ret
      exact ⟨by rw [He.out]; rfl, hb0.trans (hB.mono hb0.size)⟩
set_option maxHeartbeats 4000000 in
theorem Place_any (R : Option Addr) (m d : Nat) (vs : List Vl) (k i : Int) (s : ByteArray) (b : Bool) (w : World) (hV : Wd.Vs w R m d vs) (hs : ∀ x ∈ vs, x.s.size ≤ maxLen) :
    Calls Tryz.prog 114 #[.slice R m d, .agg #[.int .i64 k, .int .i64 i, .string s, .bool b]] w fun e w' => e = .returned (.int .i64 (place vs ⟨k, i, s, b⟩ : Nat)) ∧ Below w.heap.size w w' := by
  have hb0 := (Below.refl w.heap.size w).alloc (Nat.le_refl _) (.cells #[.int .i64 k, .int .i64 i, .string s, .bool b] 47)
  have x0 : Vc.Vb (w.alloc (.cells #[.int .i64 k, .int .i64 i, .string s, .bool b] 47)) w.heap.size k i s b := Wd.Bx.new w _ _
  have Hm := Lib.hid hV.len
  have HV := Lib.hid (hV.below hb0)
  have Hs := Lib.hid hs
  have hcap := hV.cap
  have hmx := hV.max
  unfold maxLen at hmx
  obtain ⟨F, hF⟩ : ∃ F, F = place vs ⟨k, i, s, b⟩ := ⟨_, rfl⟩
  rw [← hF]
  have HF := Lib.hid hF
  clear hV hF hs
  have Hx0 := Lib.hid x0
  clear x0
  go_enter Tryz.func114, Tryz.ntmps114
  go_wp2
  generalize w.alloc (.cells #[.int .i64 k, .int .i64 i, .string s, .bool b] 47) = wa at *
  have hl0 := Wd.Bx.lt Hx0.out
  go_loopw [5, 6] (fun g j wr => ∃ n c : Nat, j = .int .i64 n ∧ g = .int .i64 c ∧ n ≤ m ∧ c ≤ n ∧ Hid (c = place (vs.take n) ⟨k, i, s, b⟩) ∧ Below wa.heap.size wa wr) (fun _ j _ => m - (intOf j).toNat)
  case atStart => exact ⟨0, 0, rfl, rfl, Nat.zero_le _, Nat.le_refl _, Lib.hid (by simp [place]), Below.refl _ _⟩
  case round =>
    obtain ⟨n, c, rfl, rfl, hn, hcn, hf, hB⟩ := hrel
    obtain ⟨⟨y0, y1, y2, y3⟩, -⟩ := Vc.four (Hx0.out.below hl0 hB)
    by_cases hlt : n < m
    · have hnl : n < vs.length := by rw [← Hm.out]; exact hlt
      obtain ⟨e, f, hR, heB, d0, d1, d2, d3, _⟩ := (HV.out.below hB).cells (j := n) hnl rfl
      subst hR
      have hst := place_take (v := ⟨k, i, s, b⟩) hnl
      have hsz := Hs.out _ (getD_mem hnl)
      rw [← hf.out] at hst
      obtain ⟨v, hv⟩ : ∃ v, v = vs.getD n default := ⟨_, rfl⟩
      rw [← hv] at d0 d1 d2 d3 hst hsz
      clear hv hf hnl
      have hBd := hB.drew
      have Co := Lib.hid (refOrder_any v.kind v.i v.s v.b k i s b wr.drew hsz)
      clear hsz
      obtain ⟨o, ho⟩ : ∃ o, o = ord v ⟨k, i, s, b⟩ := ⟨_, rfl⟩
      rw [show ord ⟨v.kind, v.i, v.s, v.b⟩ ⟨k, i, s, b⟩ = o from ho.symm] at Co
      rw [← ho] at hst
      have Hst := Lib.hid hst
      clear ho hst
      by_cases hz : o < 0
      · have H2 := Lib.hid (Hst.out.trans (by rw [if_pos hz]))
        clear Hst
        go_wp2_with fail
        go_region_with (go_at_call 102; (with_reducible refine Co.out.mono ?_); rintro q w3 ⟨rfl, hB3⟩; have hb3 : Below wa.heap.size wa w3 := hBd.trans (hB3.mono hBd.size))
        all_goals (
          go_wp2_with fail
          go_roundw
          case rel => exact ⟨n + 1, c + 1, by go_num, by go_num, by omega, by omega, Lib.hid H2.out.symm, hb3⟩
          case measure => simp [intOf]; omega)
      · have H2 := Lib.hid (Hst.out.trans (by rw [if_neg hz]))
        clear Hst
        go_wp2_with fail
        go_region_with (go_at_call 102; (with_reducible refine Co.out.mono ?_); rintro q w3 ⟨rfl, hB3⟩; have hb3 : Below wa.heap.size wa w3 := hBd.trans (hB3.mono hBd.size))
        all_goals (
          go_wp2_with fail
          go_roundw
          case rel => exact ⟨n + 1, c, by go_num, rfl, by omega, by omega, Lib.hid H2.out.symm, hb3⟩
          case measure => simp [intOf]; omega)
    · have hkI : ¬ (n : Int) < m := by omega
      have e : c = F := by
        have := hf.out
        rw [List.take_of_length_le (by rw [← Hm.out]; omega)] at this
        rw [this, HF.out]
      have He := Lib.hid e
      clear e hf
      go_wp2_with fail
      go_ret
      exact ⟨by rw [He.out]; rfl, hb0.trans (hB.mono hb0.size)⟩
set_option maxHeartbeats 4000000 in
theorem refRises_any (R : Option Addr) (m d : Nat) (vs : List Vl) (w : World) (hV : Wd.Vs w R m d vs) (hs : ∀ x ∈ vs, x.s.size ≤ maxLen) :
    Calls Tryz.prog 99 #[.slice R m d] w fun e w' => e = .returned (.bool (tr (Ris vs))) ∧ Below w.heap.size w w' := by
  have Hm := Lib.hid hV.len
  have HV := Lib.hid hV
  have Hs := Lib.hid hs
  have hcap := hV.cap
  have hmx := hV.max
  unfold maxLen at hmx
  obtain ⟨r, hr⟩ : ∃ r, r = tr (Ris vs) := ⟨_, rfl⟩
  rw [← hr]
  have Hr := Lib.hid hr
  clear hr hV hs
  go_enter Tryz.func99, Tryz.ntmps99
  go_wp2
  go_loopw [3] (fun j wr => ∃ n : Nat, j = .int .i64 n ∧ n ≤ m ∧ Hid (∀ i, i < n → May (vs.getD i default) ∧ (0 < i → ord (vs.getD (i - 1) default) (vs.getD i default) < 0)) ∧ Below w.heap.size w wr) (fun j _ => m - (intOf j).toNat)
  case atStart => exact ⟨0, rfl, Nat.zero_le _, Lib.hid (fun i hi => by omega), Below.refl _ _⟩
  case round =>
    obtain ⟨n, rfl, hn, hf, hB⟩ := hrel
    by_cases hlt : n < m
    · have hnl : n < vs.length := by rw [← Hm.out]; exact hlt
      obtain ⟨e, f, hR, heB, d0, d1, d2, d3, _⟩ := (HV.out).cells (j := n) hnl rfl
      subst hR
      obtain ⟨v, hv⟩ : ∃ v, v = vs.getD n default := ⟨_, rfl⟩
      rw [← hv] at d0 d1 d2 d3
      have Hv := Lib.hid hv
      have Hnl := Lib.hid hnl
      have Cm := Lib.hid (refMay_any v.kind v.i v.s v.b wr)
      have z0 := (hB.cell (p := ⟨e, f + n * 4, none⟩) heB).trans d0
      have z1 := (hB.cell (p := ⟨e, f + n * 4 + 1, none⟩) heB).trans d1
      have z2 := (hB.cell (p := ⟨e, f + n * 4 + 2, none⟩) heB).trans d2
      have z3 := (hB.cell (p := ⟨e, f + n * 4 + 3, none⟩) heB).trans d3
      clear hv hnl
      by_cases hmay : May v
      case neg =>
        have em : mayB v.kind v.i v.s v.b = false := by
          cases q : mayB v.kind v.i v.s v.b
          · rfl
          · exact absurd ((mayB_iff _ _ _ _).1 q) hmay
        have er : r = false := by rw [Hr.out]; exact tr_no fun h => hmay (by have := ((ris_iff vs).1 h n Hnl.out).1; rw [← Hv.out] at this; exact this)
        rw [em] at Cm
        have Er := Lib.hid er
        clear em er hmay
        go_wp2_with fail
        refine Cm.out.mono ?_
        rintro q w3 ⟨rfl, hB3⟩
        have hb3 : Below w.heap.size w w3 := hB.trans (hB3.mono hB.size)
        go_wp2_with fail
        go_quiet (fail)
        go_wp2_with fail
        go_ret
        exact ⟨by rw [Er.out]; rfl, Wd.below_drewN hb3 _⟩
      have em : mayB v.kind v.i v.s v.b = true := (mayB_iff _ _ _ _).2 hmay
      rw [em] at Cm
      have Hmay := Lib.hid hmay
      clear em hmay
      by_cases hn0 : n = 0
      · subst hn0
        simp only [Nat.zero_mul, Nat.add_zero] at z0 z1 z2 z3
        go_wp2_with fail
        refine Cm.out.mono ?_
        rintro q w3 ⟨rfl, hB3⟩
        have hb3 : Below w.heap.size w w3 := hB.trans (hB3.mono hB.size)
        go_wp2_with fail
        go_quiet (fail)
        go_wp2_with fail
        go_roundw
        case rel =>
          refine ⟨0 + 1, by go_num, by omega, Lib.hid fun i hi => ?_, Wd.below_drewN hb3 _⟩
          obtain rfl : i = 0 := by omega
          exact ⟨by rw [← Hv.out]; exact Hmay.out, fun h => by omega⟩
        case measure => simp [intOf]; omega
      obtain ⟨j, hj⟩ : ∃ j, j + 1 = n := ⟨n - 1, by omega⟩
      have Hj := Lib.hid hj
      have hjl : j < vs.length := by have := Hnl.out; omega
      have hjm : j < m := by omega
      obtain ⟨e', f', hA', _, u0, u1, u2, u3, _⟩ := (HV.out).cells (j := j) hjl rfl
      obtain ⟨rfl, rfl⟩ : e = e' ∧ f = f' := by cases hA'; exact ⟨rfl, rfl⟩
      obtain ⟨u, hu⟩ : ∃ u, u = vs.getD j default := ⟨_, rfl⟩
      rw [← hu] at u0 u1 u2 u3
      have Hu := Lib.hid hu
      have hsz := Hs.out _ (getD_mem hjl)
      rw [← hu] at hsz
      have y0 := fun w' (hb : Below w.heap.size w w') => (hb.cell (p := ⟨e, f + j * 4, none⟩) heB).trans u0
      have y1 := fun w' (hb : Below w.heap.size w w') => (hb.cell (p := ⟨e, f + j * 4 + 1, none⟩) heB).trans u1
      have y2 := fun w' (hb : Below w.heap.size w w') => (hb.cell (p := ⟨e, f + j * 4 + 2, none⟩) heB).trans u2
      have y3 := fun w' (hb : Below w.heap.size w w') => (hb.cell (p := ⟨e, f + j * 4 + 3, none⟩) heB).trans u3
      have x0 := fun w' (hb : Below w.heap.size w w') => (hb.cell (p := ⟨e, f + n * 4, none⟩) heB).trans d0
      have x1 := fun w' (hb : Below w.heap.size w w') => (hb.cell (p := ⟨e, f + n * 4 + 1, none⟩) heB).trans d1
      have x2 := fun w' (hb : Below w.heap.size w w') => (hb.cell (p := ⟨e, f + n * 4 + 2, none⟩) heB).trans d2
      have x3 := fun w' (hb : Below w.heap.size w w') => (hb.cell (p := ⟨e, f + n * 4 + 3, none⟩) heB).trans d3
      have Y := Lib.hid (And.intro y0 (And.intro y1 (And.intro y2 y3)))
      have X := Lib.hid (And.intro x0 (And.intro x1 (And.intro x2 x3)))
      have Co := Lib.hid fun w => refOrder_any u.kind u.i u.s u.b v.kind v.i v.s v.b w hsz
      obtain ⟨o, ho⟩ : ∃ o, o = ord u v := ⟨_, rfl⟩
      rw [show ord ⟨u.kind, u.i, u.s, u.b⟩ ⟨v.kind, v.i, v.s, v.b⟩ = o from ho.symm] at Co
      have Ho := Lib.hid ho
      clear ho hu hjl hA' hsz hn0 y0 y1 y2 y3 x0 x1 x2 x3 u0 u1 u2 u3 d0 d1 d2 d3
      have hj0 : (0 : Int) < (n : Int) := by omega
      have hd : decide ((0 : Int) < (n : Int)) = true := decide_eq_true hj0
      have hwr : IntKind.i64.wrap ((n : Int) - 1) = (j : Int) := by rw [show (n : Int) - 1 = (j : Int) by omega]; exact IntWalk.i64_in _ (by omega)
      have hjI : (j : Int) < (m : Int) := by omega
      have hnI : (n : Int) < (m : Int) := by omega
      clear hj hjm
      go_wp2_with fail
      refine Cm.out.mono ?_
      rintro q w3 ⟨rfl, hB3⟩
      have hb3 : Below w.heap.size w w3 := hB.trans (hB3.mono hB.size)
      have hb4 := hb3.drew
      have C5 := Lib.hid (Co.out w3.drew)
      have XY := Lib.hid fun w' hb => (⟨Y.out.1 w' hb, Y.out.2.1 w' hb, Y.out.2.2.1 w' hb, Y.out.2.2.2 w' hb, X.out.1 w' hb, X.out.2.1 w' hb, X.out.2.2.1 w' hb, X.out.2.2.2 w' hb⟩ : _ ∧ _ ∧ _ ∧ _ ∧ _ ∧ _ ∧ _ ∧ _)
      have c0 := XY.out _ hb4
      clear Cm Co z0 z1 z2 z3 X Y
      by_cases hz : 0 ≤ o
      · have er : r = false := by
          rw [Hr.out]
          refine tr_no fun h => ?_
          have := ((ris_iff vs).1 h n Hnl.out).2 (by omega)
          rw [show n - 1 = j by have := Hj.out; omega, ← Hu.out, ← Hv.out, ← Ho.out] at this
          omega
        have Er := Lib.hid er
        clear er
        go_wp2_with fail
        have hH := c0
        refine wp_region_any (by kernel_rfl) ?_
        refine wpAny_of_held (S := fun w' => w'.cell? ⟨e, f + j * 4, none⟩ = some (.int .i64 u.kind) ∧ w'.cell? ⟨e, f + j * 4 + 1, none⟩ = some (.int .i64 u.i) ∧ w'.cell? ⟨e, f + j * 4 + 2, none⟩ = some (.string u.s) ∧ w'.cell? ⟨e, f + j * 4 + 3, none⟩ = some (.bool u.b) ∧ w'.cell? ⟨e, f + n * 4, none⟩ = some (.int .i64 v.kind) ∧ w'.cell? ⟨e, f + n * 4 + 1, none⟩ = some (.int .i64 v.i) ∧ w'.cell? ⟨e, f + n * 4 + 2, none⟩ = some (.string v.s) ∧ w'.cell? ⟨e, f + n * 4 + 3, none⟩ = some (.bool v.b)) _ _ _ _ ?_
        change wpAnyH _ _ _ _ _ 19 (Array.replicate 19 false) _ w3.drew
        refine Rt.take (i := 0) (d := 16) (v := .bool true) rfl rfl (by kernel_rfl) (by kernel_rfl) (by kernel_rfl) (fun _ _ _ h => h) (Or.inl ⟨by rfl, ?_⟩) hH ?_
        · rintro w' ⟨s0, s1, s2, s3, s4, s5, s6, s7⟩
          go_simp
        (try simp only [List.setIfInBounds_toArray, List.set_cons_zero, List.set_cons_succ])
        refine Rt.take (i := 1) (d := 17) (v := .bool false) rfl rfl (by kernel_rfl) (by kernel_rfl) (by kernel_rfl) (fun _ _ _ h => h) (Or.inl ⟨by rfl, ?_⟩) hH ?_
        · rintro w' ⟨s0, s1, s2, s3, s4, s5, s6, s7⟩
          go_simp
        (try simp only [List.setIfInBounds_toArray, List.set_cons_zero, List.set_cons_succ])
        refine Rt.take (i := 2) (d := 18) (v := .bool false) rfl rfl (by kernel_rfl) (by kernel_rfl) (by kernel_rfl) (fun _ _ _ h => h) (Or.inl ⟨by rfl, ?_⟩) hH ?_
        · rintro w' ⟨s0, s1, s2, s3, s4, s5, s6, s7⟩
          go_simp
        (try simp only [List.setIfInBounds_toArray, List.set_cons_zero, List.set_cons_succ])
        refine Rt.take (i := 3) (d := 19) (v := (.int .i64 n)) rfl rfl (by kernel_rfl) (by kernel_rfl) (by kernel_rfl) (fun _ _ _ h => h) (Or.inl ⟨by rfl, ?_⟩) hH ?_
        · rintro w' ⟨s0, s1, s2, s3, s4, s5, s6, s7⟩
          go_simp
        (try simp only [List.setIfInBounds_toArray, List.set_cons_zero, List.set_cons_succ])
        refine Rt.take (i := 4) (d := 20) (v := .bool true) rfl rfl (by kernel_rfl) (by kernel_rfl) (by kernel_rfl) (fun _ _ _ h => h) (Or.inl ⟨by rfl, ?_⟩) hH ?_
        · rintro w' ⟨s0, s1, s2, s3, s4, s5, s6, s7⟩
          go_simp
          omega
        (try simp only [List.setIfInBounds_toArray, List.set_cons_zero, List.set_cons_succ])
        refine Rt.take (i := 5) (d := 21) (v := .bool true) rfl rfl (by kernel_rfl) (by kernel_rfl) (by kernel_rfl) (fun _ _ _ h => h) (Or.inl ⟨by rfl, ?_⟩) hH ?_
        · rintro w' ⟨s0, s1, s2, s3, s4, s5, s6, s7⟩
          go_simp
        (try simp only [List.setIfInBounds_toArray, List.set_cons_zero, List.set_cons_succ])
        refine Rt.take (i := 6) (d := 22) (v := (.slice (some ⟨e, f, none⟩) m d)) rfl rfl (by kernel_rfl) (by kernel_rfl) (by kernel_rfl) (fun _ _ _ h => h) (Or.inl ⟨by rfl, ?_⟩) hH ?_
        · rintro w' ⟨s0, s1, s2, s3, s4, s5, s6, s7⟩
          go_simp
        (try simp only [List.setIfInBounds_toArray, List.set_cons_zero, List.set_cons_succ])
        refine Rt.take (i := 7) (d := 23) (v := (.int .i64 n)) rfl rfl (by kernel_rfl) (by kernel_rfl) (by kernel_rfl) (fun _ _ _ h => h) (Or.inl ⟨by rfl, ?_⟩) hH ?_
        · rintro w' ⟨s0, s1, s2, s3, s4, s5, s6, s7⟩
          go_simp
        (try simp only [List.setIfInBounds_toArray, List.set_cons_zero, List.set_cons_succ])
        refine Rt.take (i := 8) (d := 24) (v := (.int .i64 j)) rfl rfl (by kernel_rfl) (by kernel_rfl) (by kernel_rfl) (fun _ _ _ h => h) (Or.inl ⟨by rfl, ?_⟩) hH ?_
        · rintro w' ⟨s0, s1, s2, s3, s4, s5, s6, s7⟩
          go_simp
        (try simp only [List.setIfInBounds_toArray, List.set_cons_zero, List.set_cons_succ])
        refine Rt.take (i := 9) (d := 25) (v := (.pointer (some ⟨e, f + j * 4, none⟩))) rfl rfl (by kernel_rfl) (by kernel_rfl) (by kernel_rfl) (fun _ _ _ h => h) (Or.inl ⟨by rfl, ?_⟩) hH ?_
        · rintro w' ⟨s0, s1, s2, s3, s4, s5, s6, s7⟩
          go_simp
        (try simp only [List.setIfInBounds_toArray, List.set_cons_zero, List.set_cons_succ])
        refine Rt.take (i := 10) (d := 26) (v := (.agg #[.int .i64 u.kind, .int .i64 u.i, .string u.s, .bool u.b])) rfl rfl (by kernel_rfl) (by kernel_rfl) (by kernel_rfl) (fun _ _ _ h => h) (Or.inl ⟨by rfl, ?_⟩) hH ?_
        · rintro w' ⟨s0, s1, s2, s3, s4, s5, s6, s7⟩
          go_simp
        (try simp only [List.setIfInBounds_toArray, List.set_cons_zero, List.set_cons_succ])
        refine Rt.take (i := 11) (d := 27) (v := (.slice (some ⟨e, f, none⟩) m d)) rfl rfl (by kernel_rfl) (by kernel_rfl) (by kernel_rfl) (fun _ _ _ h => h) (Or.inl ⟨by rfl, ?_⟩) hH ?_
        · rintro w' ⟨s0, s1, s2, s3, s4, s5, s6, s7⟩
          go_simp
        (try simp only [List.setIfInBounds_toArray, List.set_cons_zero, List.set_cons_succ])
        refine Rt.take (i := 12) (d := 28) (v := (.int .i64 n)) rfl rfl (by kernel_rfl) (by kernel_rfl) (by kernel_rfl) (fun _ _ _ h => h) (Or.inl ⟨by rfl, ?_⟩) hH ?_
        · rintro w' ⟨s0, s1, s2, s3, s4, s5, s6, s7⟩
          go_simp
        (try simp only [List.setIfInBounds_toArray, List.set_cons_zero, List.set_cons_succ])
        refine Rt.take (i := 13) (d := 29) (v := (.pointer (some ⟨e, f + n * 4, none⟩))) rfl rfl (by kernel_rfl) (by kernel_rfl) (by kernel_rfl) (fun _ _ _ h => h) (Or.inl ⟨by rfl, ?_⟩) hH ?_
        · rintro w' ⟨s0, s1, s2, s3, s4, s5, s6, s7⟩
          go_simp
        (try simp only [List.setIfInBounds_toArray, List.set_cons_zero, List.set_cons_succ])
        refine Rt.take (i := 14) (d := 30) (v := (.agg #[.int .i64 v.kind, .int .i64 v.i, .string v.s, .bool v.b])) rfl rfl (by kernel_rfl) (by kernel_rfl) (by kernel_rfl) (fun _ _ _ h => h) (Or.inl ⟨by rfl, ?_⟩) hH ?_
        · rintro w' ⟨s0, s1, s2, s3, s4, s5, s6, s7⟩
          go_simp
        (try simp only [List.setIfInBounds_toArray, List.set_cons_zero, List.set_cons_succ])
        refine wpAnyH_ready (rs := [15]) (by kernel_rfl) (by simp) ?_
        refine AllReadyH.cons rfl (fun K hK => ?_) AllReadyH.nil
        go_simp
        refine C5.out.mono ?_
        rintro q w5 ⟨rfl, hB5⟩
        have hb5 : Below w.heap.size w w5 := hb4.trans (hB5.mono hb4.size)
        clear hH
        have hH := XY.out w5 hb5
        refine hK.out _ _ hH (fun _ => ?_)
        clear hK K
        (try simp only [Act.put, List.setIfInBounds_toArray, List.set_cons_zero, List.set_cons_succ])
        refine Rt.take (i := 16) (d := 32) (v := .bool true) rfl rfl (by kernel_rfl) (by kernel_rfl) (by kernel_rfl) (fun _ _ _ h => h) (Or.inl ⟨by rfl, ?_⟩) hH ?_
        · rintro w' ⟨s0, s1, s2, s3, s4, s5, s6, s7⟩
          go_simp
        (try simp only [List.setIfInBounds_toArray, List.set_cons_zero, List.set_cons_succ])
        refine Rt.take (i := 17) (d := 33) (v := .bool true) rfl rfl (by kernel_rfl) (by kernel_rfl) (by kernel_rfl) (fun _ _ _ h => h) (Or.inl ⟨by rfl, ?_⟩) hH ?_
        · rintro w' ⟨s0, s1, s2, s3, s4, s5, s6, s7⟩
          go_simp
        (try simp only [List.setIfInBounds_toArray, List.set_cons_zero, List.set_cons_succ])
        refine Rt.take (i := 18) (d := 34) (v := .bool true) rfl rfl (by kernel_rfl) (by kernel_rfl) (by kernel_rfl) (fun _ _ _ h => h) (Or.inl ⟨by rfl, ?_⟩) hH ?_
        · rintro w' ⟨s0, s1, s2, s3, s4, s5, s6, s7⟩
          go_simp
        (try simp only [List.setIfInBounds_toArray, List.set_cons_zero, List.set_cons_succ])
        refine wpAnyH_done (by kernel_rfl) ?_ _
        go_wp2_with fail
        go_ret
        exact ⟨by rw [Er.out]; rfl, hb5⟩
      · have hz' : o < 0 := by omega
        have Hz := Lib.hid hz'
        clear hz'
        go_wp2_with fail
        have hH := c0
        refine wp_region_any (by kernel_rfl) ?_
        refine wpAny_of_held (S := fun w' => w'.cell? ⟨e, f + j * 4, none⟩ = some (.int .i64 u.kind) ∧ w'.cell? ⟨e, f + j * 4 + 1, none⟩ = some (.int .i64 u.i) ∧ w'.cell? ⟨e, f + j * 4 + 2, none⟩ = some (.string u.s) ∧ w'.cell? ⟨e, f + j * 4 + 3, none⟩ = some (.bool u.b) ∧ w'.cell? ⟨e, f + n * 4, none⟩ = some (.int .i64 v.kind) ∧ w'.cell? ⟨e, f + n * 4 + 1, none⟩ = some (.int .i64 v.i) ∧ w'.cell? ⟨e, f + n * 4 + 2, none⟩ = some (.string v.s) ∧ w'.cell? ⟨e, f + n * 4 + 3, none⟩ = some (.bool v.b)) _ _ _ _ ?_
        change wpAnyH _ _ _ _ _ 19 (Array.replicate 19 false) _ w3.drew
        refine Rt.take (i := 0) (d := 16) (v := .bool true) rfl rfl (by kernel_rfl) (by kernel_rfl) (by kernel_rfl) (fun _ _ _ h => h) (Or.inl ⟨by rfl, ?_⟩) hH ?_
        · rintro w' ⟨s0, s1, s2, s3, s4, s5, s6, s7⟩
          go_simp
        (try simp only [List.setIfInBounds_toArray, List.set_cons_zero, List.set_cons_succ])
        refine Rt.take (i := 1) (d := 17) (v := .bool false) rfl rfl (by kernel_rfl) (by kernel_rfl) (by kernel_rfl) (fun _ _ _ h => h) (Or.inl ⟨by rfl, ?_⟩) hH ?_
        · rintro w' ⟨s0, s1, s2, s3, s4, s5, s6, s7⟩
          go_simp
        (try simp only [List.setIfInBounds_toArray, List.set_cons_zero, List.set_cons_succ])
        refine Rt.take (i := 2) (d := 18) (v := .bool false) rfl rfl (by kernel_rfl) (by kernel_rfl) (by kernel_rfl) (fun _ _ _ h => h) (Or.inl ⟨by rfl, ?_⟩) hH ?_
        · rintro w' ⟨s0, s1, s2, s3, s4, s5, s6, s7⟩
          go_simp
        (try simp only [List.setIfInBounds_toArray, List.set_cons_zero, List.set_cons_succ])
        refine Rt.take (i := 3) (d := 19) (v := (.int .i64 n)) rfl rfl (by kernel_rfl) (by kernel_rfl) (by kernel_rfl) (fun _ _ _ h => h) (Or.inl ⟨by rfl, ?_⟩) hH ?_
        · rintro w' ⟨s0, s1, s2, s3, s4, s5, s6, s7⟩
          go_simp
        (try simp only [List.setIfInBounds_toArray, List.set_cons_zero, List.set_cons_succ])
        refine Rt.take (i := 4) (d := 20) (v := .bool true) rfl rfl (by kernel_rfl) (by kernel_rfl) (by kernel_rfl) (fun _ _ _ h => h) (Or.inl ⟨by rfl, ?_⟩) hH ?_
        · rintro w' ⟨s0, s1, s2, s3, s4, s5, s6, s7⟩
          go_simp
          omega
        (try simp only [List.setIfInBounds_toArray, List.set_cons_zero, List.set_cons_succ])
        refine Rt.take (i := 5) (d := 21) (v := .bool true) rfl rfl (by kernel_rfl) (by kernel_rfl) (by kernel_rfl) (fun _ _ _ h => h) (Or.inl ⟨by rfl, ?_⟩) hH ?_
        · rintro w' ⟨s0, s1, s2, s3, s4, s5, s6, s7⟩
          go_simp
        (try simp only [List.setIfInBounds_toArray, List.set_cons_zero, List.set_cons_succ])
        refine Rt.take (i := 6) (d := 22) (v := (.slice (some ⟨e, f, none⟩) m d)) rfl rfl (by kernel_rfl) (by kernel_rfl) (by kernel_rfl) (fun _ _ _ h => h) (Or.inl ⟨by rfl, ?_⟩) hH ?_
        · rintro w' ⟨s0, s1, s2, s3, s4, s5, s6, s7⟩
          go_simp
        (try simp only [List.setIfInBounds_toArray, List.set_cons_zero, List.set_cons_succ])
        refine Rt.take (i := 7) (d := 23) (v := (.int .i64 n)) rfl rfl (by kernel_rfl) (by kernel_rfl) (by kernel_rfl) (fun _ _ _ h => h) (Or.inl ⟨by rfl, ?_⟩) hH ?_
        · rintro w' ⟨s0, s1, s2, s3, s4, s5, s6, s7⟩
          go_simp
        (try simp only [List.setIfInBounds_toArray, List.set_cons_zero, List.set_cons_succ])
        refine Rt.take (i := 8) (d := 24) (v := (.int .i64 j)) rfl rfl (by kernel_rfl) (by kernel_rfl) (by kernel_rfl) (fun _ _ _ h => h) (Or.inl ⟨by rfl, ?_⟩) hH ?_
        · rintro w' ⟨s0, s1, s2, s3, s4, s5, s6, s7⟩
          go_simp
        (try simp only [List.setIfInBounds_toArray, List.set_cons_zero, List.set_cons_succ])
        refine Rt.take (i := 9) (d := 25) (v := (.pointer (some ⟨e, f + j * 4, none⟩))) rfl rfl (by kernel_rfl) (by kernel_rfl) (by kernel_rfl) (fun _ _ _ h => h) (Or.inl ⟨by rfl, ?_⟩) hH ?_
        · rintro w' ⟨s0, s1, s2, s3, s4, s5, s6, s7⟩
          go_simp
        (try simp only [List.setIfInBounds_toArray, List.set_cons_zero, List.set_cons_succ])
        refine Rt.take (i := 10) (d := 26) (v := (.agg #[.int .i64 u.kind, .int .i64 u.i, .string u.s, .bool u.b])) rfl rfl (by kernel_rfl) (by kernel_rfl) (by kernel_rfl) (fun _ _ _ h => h) (Or.inl ⟨by rfl, ?_⟩) hH ?_
        · rintro w' ⟨s0, s1, s2, s3, s4, s5, s6, s7⟩
          go_simp
        (try simp only [List.setIfInBounds_toArray, List.set_cons_zero, List.set_cons_succ])
        refine Rt.take (i := 11) (d := 27) (v := (.slice (some ⟨e, f, none⟩) m d)) rfl rfl (by kernel_rfl) (by kernel_rfl) (by kernel_rfl) (fun _ _ _ h => h) (Or.inl ⟨by rfl, ?_⟩) hH ?_
        · rintro w' ⟨s0, s1, s2, s3, s4, s5, s6, s7⟩
          go_simp
        (try simp only [List.setIfInBounds_toArray, List.set_cons_zero, List.set_cons_succ])
        refine Rt.take (i := 12) (d := 28) (v := (.int .i64 n)) rfl rfl (by kernel_rfl) (by kernel_rfl) (by kernel_rfl) (fun _ _ _ h => h) (Or.inl ⟨by rfl, ?_⟩) hH ?_
        · rintro w' ⟨s0, s1, s2, s3, s4, s5, s6, s7⟩
          go_simp
        (try simp only [List.setIfInBounds_toArray, List.set_cons_zero, List.set_cons_succ])
        refine Rt.take (i := 13) (d := 29) (v := (.pointer (some ⟨e, f + n * 4, none⟩))) rfl rfl (by kernel_rfl) (by kernel_rfl) (by kernel_rfl) (fun _ _ _ h => h) (Or.inl ⟨by rfl, ?_⟩) hH ?_
        · rintro w' ⟨s0, s1, s2, s3, s4, s5, s6, s7⟩
          go_simp
        (try simp only [List.setIfInBounds_toArray, List.set_cons_zero, List.set_cons_succ])
        refine Rt.take (i := 14) (d := 30) (v := (.agg #[.int .i64 v.kind, .int .i64 v.i, .string v.s, .bool v.b])) rfl rfl (by kernel_rfl) (by kernel_rfl) (by kernel_rfl) (fun _ _ _ h => h) (Or.inl ⟨by rfl, ?_⟩) hH ?_
        · rintro w' ⟨s0, s1, s2, s3, s4, s5, s6, s7⟩
          go_simp
        (try simp only [List.setIfInBounds_toArray, List.set_cons_zero, List.set_cons_succ])
        refine wpAnyH_ready (rs := [15]) (by kernel_rfl) (by simp) ?_
        refine AllReadyH.cons rfl (fun K hK => ?_) AllReadyH.nil
        go_simp
        refine C5.out.mono ?_
        rintro q w5 ⟨rfl, hB5⟩
        have hb5 : Below w.heap.size w w5 := hb4.trans (hB5.mono hb4.size)
        clear hH
        have hH := XY.out w5 hb5
        refine hK.out _ _ hH (fun _ => ?_)
        clear hK K
        (try simp only [Act.put, List.setIfInBounds_toArray, List.set_cons_zero, List.set_cons_succ])
        refine Rt.take (i := 16) (d := 32) (v := .bool false) rfl rfl (by kernel_rfl) (by kernel_rfl) (by kernel_rfl) (fun _ _ _ h => h) (Or.inl ⟨by rfl, ?_⟩) hH ?_
        · rintro w' ⟨s0, s1, s2, s3, s4, s5, s6, s7⟩
          go_simp
        (try simp only [List.setIfInBounds_toArray, List.set_cons_zero, List.set_cons_succ])
        refine Rt.take (i := 17) (d := 33) (v := .bool false) rfl rfl (by kernel_rfl) (by kernel_rfl) (by kernel_rfl) (fun _ _ _ h => h) (Or.inl ⟨by rfl, ?_⟩) hH ?_
        · rintro w' ⟨s0, s1, s2, s3, s4, s5, s6, s7⟩
          go_simp
        (try simp only [List.setIfInBounds_toArray, List.set_cons_zero, List.set_cons_succ])
        refine Rt.take (i := 18) (d := 34) (v := .bool false) rfl rfl (by kernel_rfl) (by kernel_rfl) (by kernel_rfl) (fun _ _ _ h => h) (Or.inl ⟨by rfl, ?_⟩) hH ?_
        · rintro w' ⟨s0, s1, s2, s3, s4, s5, s6, s7⟩
          go_simp
        (try simp only [List.setIfInBounds_toArray, List.set_cons_zero, List.set_cons_succ])
        refine wpAnyH_done (by kernel_rfl) ?_ _
        go_wp2_with fail
        go_roundw
        case rel =>
            refine ⟨n + 1, by go_num, by omega, Lib.hid fun i hi => ?_, hb5⟩
            by_cases hij : i = n
            · rw [hij]
              exact ⟨by rw [← Hv.out]; exact Hmay.out, fun _ => by rw [show n - 1 = j by have := Hj.out; omega, ← Hu.out, ← Hv.out, ← Ho.out]; exact Hz.out⟩
            · exact hf.out i (by omega)
        case measure => simp [intOf]; omega
    · have hkI : ¬ (n : Int) < m := by omega
      have e : r = true := by
        rw [Hr.out]
        exact tr_yes ((ris_iff vs).2 fun i hi => hf.out i (by have := Hm.out; omega))
      have He := Lib.hid e
      clear e hf
      go_wp2_with fail
      go_ret
      exact ⟨by rw [He.out]; rfl, hB⟩
end Dx
end Go.Proofs.YtaoeipehpakngaaGreatDoor
