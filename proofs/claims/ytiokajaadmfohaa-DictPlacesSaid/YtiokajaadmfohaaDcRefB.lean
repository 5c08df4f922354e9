/- What the reference of layer 8 does: Search; and few of the statements of layer 8. -/
import Derived.Test.YtiokajaadmfohaaDcRef
namespace Go.Proofs.Ytiokajaadmfohaa
set_option maxRecDepth 20000
open Go.RowKit
namespace Dx
open Va (Vl May ord)
open Vc (mayB mayB_iff refMay_any refOrder_any)
open Sc (tr tr_yes tr_no tr_iff)
open Dc
/-- What Search answers. -/
noncomputable def schN (l : List Vl) (v : Vl) : Int := if tr (May v ∧ Ris l) = true then (place l v : Int) else 0
noncomputable def schB (l : List Vl) (v : Vl) : Bool := tr (May v ∧ Ris l ∧ v ∈ l)
set_option maxHeartbeats 4000000 in
theorem refSearch_any (R : Option Addr) (m d : Nat) (vs : List Vl) (k i : Int) (s : ByteArray) (b : Bool) (w : World) (hV : Wd.Vs w R m d vs) (hs : ∀ x ∈ vs, x.s.size ≤ maxLen) :
    Calls Try.prog 23 #[.slice R m d, .agg #[.int .i64 k, .int .i64 i, .string s, .bool b]] w fun e w' => e = .returned (.tuple #[.int .i64 (schN vs ⟨k, i, s, b⟩), .bool (schB vs ⟨k, i, s, b⟩)]) ∧ Below w.heap.size w w' := by
  have hb0 := (Below.refl w.heap.size w).alloc (Nat.le_refl _) (.cells #[.int .i64 k, .int .i64 i, .string s, .bool b] 24)
  have x0 : Vc.Vb (w.alloc (.cells #[.int .i64 k, .int .i64 i, .string s, .bool b] 24)) w.heap.size k i s b := Wd.Bx.new w _ _
  have HV := Lib.hid (hV.below hb0)
  have Cm := refMay_any k i s b (w.alloc (.cells #[.int .i64 k, .int .i64 i, .string s, .bool b] 24))
  have Cr := fun w hV => refRises_any R m d vs w hV hs
  have Cp := fun w hV => Place_any R m d vs k i s b w hV hs
  have Cf := fun w hV => refFind_any R m d vs k i s b w hV
  have hm : mayB k i s b = tr (May ⟨k, i, s, b⟩) := by rw [Bool.eq_iff_iff, mayB_iff, tr_iff]
  rw [hm] at Cm
  have hN : schN vs ⟨k, i, s, b⟩ = if (tr (May ⟨k, i, s, b⟩) && tr (Ris vs)) = true then (place vs ⟨k, i, s, b⟩ : Int) else 0 := by
    unfold schN
    rw [show tr (May ⟨k, i, s, b⟩ ∧ Ris vs) = (tr (May ⟨k, i, s, b⟩) && tr (Ris vs)) by rw [Bool.eq_iff_iff, Bool.and_eq_true, tr_iff, tr_iff, tr_iff]]
  have hB : schB vs ⟨k, i, s, b⟩ = (tr (May ⟨k, i, s, b⟩) && (tr (Ris vs) && decide (0 ≤ fnd vs ⟨k, i, s, b⟩))) := by
    unfold schB
    rw [Bool.eq_iff_iff, Bool.and_eq_true, Bool.and_eq_true, tr_iff, tr_iff, tr_iff, decide_eq_true_iff, fnd_pos]
  rw [hN, hB]
  generalize tr (May ⟨k, i, s, b⟩) = mb at *
  generalize tr (Ris vs) = rb at *
  generalize place vs ⟨k, i, s, b⟩ = pl at *
  generalize fnd vs ⟨k, i, s, b⟩ = fd at *
  have Cm := Lib.hid Cm
  have Cr := Lib.hid Cr
  have Cp := Lib.hid Cp
  have Cf := Lib.hid Cf
  have Hx0 := Lib.hid x0
  clear hm hN hB hV hs x0
  go_enter Try.func23, Try.ntmps23
  obtain ⟨⟨y0, y1, y2, y3⟩, -⟩ := Vc.four Hx0.out
  go_wp2_with fail
  generalize w.alloc (.cells #[.int .i64 k, .int .i64 i, .string s, .bool b] 24) = wa at *
  refine Cm.out.mono ?_
  rintro e w1 ⟨rfl, hB1⟩
  have hb1 := hb0.trans (hB1.mono hb0.size)
  have Hx1 := Lib.hid (Hx0.out.below (Wd.Bx.lt Hx0.out) hB1)
  have HV1 := Lib.hid (HV.out.below hB1)
  clear y0 y1 y2 y3 Cm HV Hx0 hB1 hb0
  obtain ⟨⟨y0, y1, y2, y3⟩, -⟩ := Vc.four Hx1.out
  go_wp2_with fail
  refine (Cr.out _ HV1.out).mono ?_
  rintro e w2 ⟨rfl, hB2⟩
  have hb2 := hb1.trans (hB2.mono hb1.size)
  have Hx2 := Lib.hid (Hx1.out.below (Wd.Bx.lt Hx1.out) hB2)
  have HV2 := Lib.hid (HV1.out.below hB2)
  clear y0 y1 y2 y3 Cr HV1 Hx1 hB2 hb1
  cases mb
  · cases rb <;> (go_wp2_with fail; go_ret2; exact ⟨rfl, hb2⟩)
  cases rb
  · go_wp2_with fail
    go_ret2
    exact ⟨rfl, hb2⟩
  have hb := (Below.refl w2.heap.size w2).drew
  have hl2 := Wd.Bx.lt Hx2.out
  have c0 := (Vc.four (Hx2.out.below hl2 hb)).1
  go_wp2_with fail
  go_region_held3 (fun w' => w'.cell? ⟨w.heap.size, 0, none⟩ = some (.int .i64 k) ∧ w'.cell? ⟨w.heap.size, 1, none⟩ = some (.int .i64 i) ∧ w'.cell? ⟨w.heap.size, 2, none⟩ = some (.string s) ∧ w'.cell? ⟨w.heap.size, 3, none⟩ = some (.bool b)) (exact c0) (first | (go_at_call 34; (with_reducible refine (Cp.out _ (HV2.out.below hb)).mono ?_); rintro e wz ⟨rfl, hBz⟩; have hb := hb.trans (hBz.mono hb.size); have c0 := (Vc.four (Hx2.out.below hl2 hb)).1) | (go_at_call 16; (with_reducible refine (Cf.out _ (HV2.out.below hb)).mono ?_); rintro e wz ⟨rfl, hBz⟩; have hb := hb.trans (hBz.mono hb.size); have c0 := (Vc.four (Hx2.out.below hl2 hb)).1))
  all_goals (
    have hb7 := hb2.trans (hb.mono hb2.size)
    go_wp2_with fail
    go_ret2
    exact ⟨by simp, hb7⟩)
/-- Are there at most 100 values, of texts of at most 300 bytes? -/
def FewV (vs : List Vl) : Prop := vs.length ≤ 100 ∧ ∀ i, i < vs.length → (vs.getD i default).s.size ≤ 300
theorem light1 (x : Vl) : Sx.LightS [x] ↔ x.s.size ≤ 300 := by
  constructor
  · intro h
    exact h.2 0 (by simp)
  · intro h
    exact ⟨by simp, fun i hi => by
      obtain rfl : i = 0 := by simpa using hi
      exact h⟩
/-- One value of a slice of values, as a slice. -/
theorem vs_one {w : World} {b o n c : Nat} {vs : List Vl} (h : Wd.Vs w (some ⟨b, o, none⟩) n c vs) {k : Nat} (hk : k < vs.length) : Wd.Vs w (some ⟨b, o + k * 4, none⟩) 1 (c - k) [vs.getD k default] := by
  have hl := h.len
  have hc := h.cap
  have hm := h.max
  refine ⟨rfl, by omega, by omega, by simp, fun j hj => ?_⟩
  obtain rfl : j = 0 := by simpa using hj
  obtain ⟨b', o', e, hlt, hcell, h1⟩ := h.at_ k hk
  obtain ⟨rfl, rfl⟩ : b = b' ∧ o = o' := by cases e; exact ⟨rfl, rfl⟩
  exact ⟨b, o + k * 4, rfl, hlt, fun i v hv => by have := hcell i v hv; rw [show o + k * 4 + (0 * 4 + i) = o + (k * 4 + i) by omega]; exact this, h1⟩
set_option maxHeartbeats 4000000 in
theorem few_any (R : Option Addr) (m d : Nat) (vs : List Vl) (w : World) (hV : Wd.Vs w R m d vs) :
    Calls Try.prog 10 #[.slice R m d] w fun e w' => e = .returned (.bool (tr (FewV vs))) ∧ w' = w := by
  have Hm := Lib.hid hV.len
  have HV := Lib.hid hV
  have hcap := hV.cap
  have hmx := hV.max
  unfold maxLen at hmx
  obtain ⟨r, hr⟩ : ∃ r, r = tr (FewV vs) := ⟨_, rfl⟩
  rw [← hr]
  have Hr := Lib.hid hr
  clear hr hV
  by_cases h12 : 100 < m
  · have e : r = false := by rw [Hr.out]; exact tr_no fun h => by have := h.1; have := Hm.out; omega
    subst e
    have q1 : (100 : Int) < (m : Int) := by omega
    clear h12
    go_enter Try.func10, Try.ntmps10
    go_wp2_with fail
    go_ret
    exact ⟨rfl, rfl⟩
  have q1 : ¬ (100 : Int) < (m : Int) := by omega
  go_enter Try.func10, Try.ntmps10
  go_wp2
  go_loopw [3] (fun i wr => ∃ k : Nat, i = .int .i64 k ∧ k ≤ m ∧ Hid (∀ j, j < k → (vs.getD j default).s.size ≤ 300) ∧ wr = w) (fun i _ => m - (intOf i).toNat)
  case atStart => exact ⟨0, rfl, Nat.zero_le _, Lib.hid (fun j hj => by omega), rfl⟩
  case round =>
    obtain ⟨k, rfl, hk, hf, rfl⟩ := hrel
    by_cases hlt : k < m
    · have hkl : k < vs.length := by rw [← Hm.out]; exact hlt
      obtain ⟨e, f, hR, heB, d0, d1, d2, d3, _⟩ := HV.out.cells (j := k) hkl rfl
      subst hR
      have hone := vs_one HV.out hkl
      obtain ⟨x, hx⟩ : ∃ x, x = vs.getD k default := ⟨_, rfl⟩
      rw [← hx] at hone
      have Cl := Sx.Light_any _ _ _ _ wr hone
      have Hx := Lib.hid hx
      have Hkl := Lib.hid hkl
      have g1 : (k : Int) ≤ (k : Int) + 1 := by omega
      have g2 : ¬ (d : Int) < (k : Int) + 1 := by omega
      have g3 : ¬ d = k := by omega
      clear hx d0 d1 d2 d3 hone hkl
      by_cases hz : x.s.size ≤ 300
      · rw [tr_yes ((light1 x).2 hz)] at Cl
        have Cl' := Lib.hid Cl
        have Hz := Lib.hid hz
        clear Cl hz
        go_wp2_with fail
        refine Cl'.out.mono ?_
        rintro q w3 ⟨rfl, rfl⟩
        go_wp2_with fail
        go_roundw
        case rel =>
          refine ⟨k + 1, by go_num, by omega, Lib.hid fun j hj => ?_, by first | rfl | trivial⟩
          by_cases hjk : j = k
          · rw [hjk, ← Hx.out]; exact Hz.out
          · exact hf.out j (by omega)
        case measure => simp [intOf]; omega
      · rw [tr_no (fun h => hz ((light1 x).1 h))] at Cl
        have Cl' := Lib.hid Cl
        have e : r = false := by rw [Hr.out]; exact tr_no fun h => hz (by have := h.2 k Hkl.out; rw [← Hx.out] at this; exact this)
        have He := Lib.hid e
        clear Cl e hz
        go_wp2_with fail
        refine Cl'.out.mono ?_
        rintro q w3 ⟨rfl, rfl⟩
        go_wp2_with fail
        go_ret
        exact ⟨by rw [He.out]; rfl, rfl⟩
    · have hkI : ¬ (k : Int) < m := by omega
      have e : r = true := by
        rw [Hr.out]
        exact tr_yes ⟨by have := Hm.out; omega, fun i hi => hf.out i (by have := Hm.out; omega)⟩
      have He := Lib.hid e
      clear e hf
      go_wp2_with fail
      go_ret
      exact ⟨by rw [He.out]; rfl, rfl⟩
end Dx
end Go.Proofs.Ytiokajaadmfohaa
