/- The walk of the statement DictPlaces of layer 8. -/
import Derived.Test.YtiokajaadmfohaaDcLawA
import Derived.Deep.RegionWith
namespace Go.Proofs.Ytiokajaadmfohaa
set_option maxRecDepth 20000
open Go.RowKit
namespace Lw
open Dx Dc
open Va (Vl May ord null)
open Vc (mayB mayB_iff refMay_any refOrder_any)
open Sc (tr tr_yes tr_no tr_iff)
variable {D : World → Nat → List Vl → Int → (Nat → Prop) → Prop}
set_option maxHeartbeats 8000000 in
theorem dictPlaces_walk (I : Ifc D) (J : IfcS) (R : Option Addr) (m d : Nat) (vs : List Vl) (k i : Int) (s : ByteArray) (b : Bool) (w : World) (hV : Wd.Vs w R m d vs) (h1 : Wd.V1 ⟨k, i, s, b⟩) :
    Calls Try.prog 8 #[.slice R m d, .agg #[.int .i64 k, .int .i64 i, .string s, .bool b]] w fun e w' => e = .returned (.bool true) ∧ Below w.heap.size w w' := by
  have hb0 := (Below.refl w.heap.size w).alloc (Nat.le_refl _) (.cells #[.int .i64 k, .int .i64 i, .string s, .bool b] 24)
  have x0 : Vc.Vb (w.alloc (.cells #[.int .i64 k, .int .i64 i, .string s, .bool b] 24)) w.heap.size k i s b := Wd.Bx.new w _ _
  have HV := Lib.hid (hV.below hb0)
  have H1 := Lib.hid h1
  have Hx0 := Lib.hid x0
  clear hV h1 x0
  obtain ⟨f1, hf1⟩ : ∃ f, f = tr (FewV vs) := ⟨_, rfl⟩
  obtain ⟨f2, hf2⟩ : ∃ f, f = tr (FewV [⟨k, i, s, b⟩]) := ⟨_, rfl⟩
  have Hf1 := Lib.hid hf1
  have Hf2 := Lib.hid hf2
  clear hf1 hf2
  go_enter Try.func8, Try.ntmps8
  go_wp2_with fail
  generalize w.alloc (.cells #[.int .i64 k, .int .i64 i, .string s, .bool b] 24) = wa at *
  refine (awake_any I wa).mono ?_
  rintro e w1 ⟨rfl, hB1⟩
  have hb1 := hb0.trans (hB1.mono hb0.size)
  have Hx1 := Lib.hid (Hx0.out.below (Wd.Bx.lt Hx0.out) hB1)
  have HV1 := Lib.hid (HV.out.below hB1)
  clear HV Hx0 hB1 hb0
  have C1 := few_any R m d vs w1 HV1.out
  rw [← Hf1.out] at C1
  have C1 := Lib.hid C1
  go_wp2_with fail
  refine C1.out.mono ?_
  rintro e w1' ⟨rfl, rfl⟩
  obtain ⟨⟨y0, y1, y2, y3⟩, -⟩ := Vc.four Hx1.out
  have hb2 := hb1.alloc hb1.size (.cells #[.int .i64 k, .int .i64 i, .string s, .bool b] 24)
  have C2 := few_any _ 1 1 [⟨k, i, s, b⟩] _ (vs_lit1 w1' 24 k i s b H1.out)
  rw [← Hf2.out] at C2
  have C2 := Lib.hid C2
  go_wp2_with fail
  have hbA := (Below.refl w1'.heap.size w1').alloc (Nat.le_refl _) (.cells #[.int .i64 k, .int .i64 i, .string s, .bool b] 24)
  have Hx2 := Lib.hid (Hx1.out.below (Wd.Bx.lt Hx1.out) hbA)
  have HV2 := Lib.hid (HV1.out.below hbA)
  generalize w1'.alloc (.cells #[.int .i64 k, .int .i64 i, .string s, .bool b] 24) = w2 at *
  refine C2.out.mono ?_
  rintro e w2' ⟨rfl, rfl⟩
  clear C1 C2 y0 y1 y2 y3 Hx1 HV1 hbA hb1
  have hm : mayB k i s b = tr (May ⟨k, i, s, b⟩) := by rw [Bool.eq_iff_iff, mayB_iff, tr_iff]
  obtain ⟨⟨y0, y1, y2, y3⟩, -⟩ := Vc.four Hx2.out
  have Cm := refMay_any k i s b w2'
  rw [hm] at Cm
  obtain ⟨mb, hmb⟩ : ∃ x, x = tr (May ⟨k, i, s, b⟩) := ⟨_, rfl⟩
  rw [← hmb] at Cm
  have Cm := Lib.hid Cm
  have Hmb := Lib.hid hmb
  clear hm hmb
  go_wp2_with fail
  refine Cm.out.mono ?_
  rintro e w3 ⟨rfl, hB3⟩
  have hb3 := hb2.trans (hB3.mono hb2.size)
  have Hx3 := Lib.hid (Hx2.out.below (Wd.Bx.lt Hx2.out) hB3)
  have HV3 := Lib.hid (HV2.out.below hB3)
  clear y0 y1 y2 y3 Hx2 HV2 hB3 hb2 Cm
  cases f1
  · cases f2 <;> cases mb <;> (go_wp2_with fail; go_ret; exact ⟨rfl, hb3⟩)
  cases f2
  · cases mb <;> (go_wp2_with fail; go_ret; exact ⟨rfl, hb3⟩)
  cases mb
  · go_wp2_with fail
    go_ret
    exact ⟨rfl, hb3⟩
  have hF1 : FewV vs := tr_iff.1 Hf1.out.symm
  have hF2 : s.size ≤ 300 := (few1 _).1 (tr_iff.1 Hf2.out.symm)
  have hok := okv_few HV3.out hF1
  have hokv : Okv ⟨k, i, s, b⟩ := ⟨H1.out, by show s.size ≤ maxLen; unfold maxLen; omega⟩
  have hmay : May ⟨k, i, s, b⟩ := tr_iff.1 Hmb.out.symm
  have hm100 := hF1.1
  have Hm := Lib.hid HV3.out.len
  have hcap := HV3.out.cap
  have hmm100 : m ≤ 100 := by rw [Hm.out]; exact hm100
  have S3 := J.rises_ R m d vs w3 HV3.out hok
  have S1 := fun w hV => J.search_ R m d vs ⟨k, i, s, b⟩ w hV hok hokv
  have Hok := Lib.hid hok
  have Hmay := Lib.hid hmay
  obtain ⟨rb, hrb⟩ : ∃ x, x = tr (Ris vs) := ⟨_, rfl⟩
  rw [← hrb] at S3
  have S3 := Lib.hid S3
  have Hrb := Lib.hid hrb
  clear hF1 hF2 hok hokv hmay hrb
  go_wp2_with fail
  refine S3.out.mono ?_
  rintro e w4 ⟨rfl, hB4⟩
  have hb4 := hb3.trans (hB4.mono hb3.size)
  have Hx4 := Lib.hid (Hx3.out.below (Wd.Bx.lt Hx3.out) hB4)
  have HV4 := Lib.hid (HV3.out.below hB4)
  clear Hx3 HV3 hB4 hb3 S3
  cases rb
  · go_wp2_with fail
    go_ret
    exact ⟨rfl, hb4⟩
  have hris : Ris vs := tr_iff.1 Hrb.out.symm
  have eN : schN vs ⟨k, i, s, b⟩ = (place vs ⟨k, i, s, b⟩ : Int) := by unfold schN; rw [if_pos (tr_yes ⟨Hmay.out, hris⟩)]
  have eB : schB vs ⟨k, i, s, b⟩ = decide ((⟨k, i, s, b⟩ : Vl) ∈ vs) := by
    unfold schB
    rw [Bool.eq_iff_iff, tr_iff, decide_eq_true_iff]
    exact ⟨fun h => h.2.2, fun h => ⟨Hmay.out, hris, h⟩⟩
  rw [eN, eB] at S1
  unfold ag at S1
  have hpl := place_le vs ⟨k, i, s, b⟩
  have hsplit := up_split hris.2 ⟨k, i, s, b⟩
  have hmem := ris_mem hris.2 ⟨k, i, s, b⟩
  obtain ⟨p, hp⟩ : ∃ p, p = place vs ⟨k, i, s, b⟩ := ⟨_, rfl⟩
  rw [← hp] at S1 hpl hsplit hmem
  obtain ⟨fb, hfb⟩ : ∃ fb, fb = decide ((⟨k, i, s, b⟩ : Vl) ∈ vs) := ⟨_, rfl⟩
  rw [← hfb] at S1
  have hpm : p ≤ m := by rw [Hm.out]; exact hpl
  have hpI : ¬ (m : Int) < (p : Int) := by omega
  have hpd : decide ((m : Int) < (p : Int)) = false := decide_eq_false hpI
  have hpN : decide (m < p) = false := decide_eq_false (by omega)
  have hp0 : decide ((p : Int) < 0) = false := decide_eq_false (by omega)
  have S1 := Lib.hid S1
  have Hsplit := Lib.hid hsplit
  have Hmem := Lib.hid hmem
  have Hfb := Lib.hid hfb
  clear hris eN eB hpl hsplit hmem hp hfb
  obtain ⟨⟨y0, y1, y2, y3⟩, -⟩ := Vc.four Hx4.out
  go_wp2_with fail
  refine (S1.out _ HV4.out).mono ?_
  rintro e w5 ⟨rfl, hB5⟩
  have hb5 := hb4.trans (hB5.mono hb4.size)
  have Hx5 := Lib.hid (Hx4.out.below (Wd.Bx.lt Hx4.out) hB5)
  have HV5 := Lib.hid (HV4.out.below hB5)
  have hl5 := Wd.Bx.lt Hx5.out
  clear y0 y1 y2 y3 Hx4 HV4 hB5 hb4 S1
  have hgt : Try.prog.eqGuardType Try.prog.depth 24 = false := by kernel_rfl
  go_wp2
  go_loopw [11] (fun j wr => ∃ n : Nat, j = .int .i64 n ∧ n ≤ m ∧ Below w5.heap.size w5 wr) (fun j _ => m - (intOf j).toNat)
  case atStart => exact ⟨0, rfl, Nat.zero_le _, Below.refl _ _⟩
  case round =>
    obtain ⟨n, rfl, hn, hB⟩ := hrel
    obtain ⟨⟨y0, y1, y2, y3⟩, -⟩ := Vc.four (Hx5.out.below hl5 hB)
    by_cases hlt : n < m
    · have hnl : n < vs.length := by rw [← Hm.out]; exact hlt
      obtain ⟨e, f, hR, heB, d0, d1, d2, d3, _⟩ := (HV5.out.below hB).cells (j := n) hnl rfl
      subst hR
      have hsz := (Hok.out _ (getD_mem hnl)).2
      have hsp := Hsplit.out n _ (getD_at hnl)
      obtain ⟨v, hv⟩ : ∃ v, v = vs.getD n default := ⟨_, rfl⟩
      rw [← hv] at d0 d1 d2 d3 hsz hsp
      have hBd := hB.drew
      have Co := refOrder_any v.kind v.i v.s v.b k i s b wr.drew hsz
      rw [show (⟨v.kind, v.i, v.s, v.b⟩ : Vl) = v from rfl] at Co
      generalize ord v ⟨k, i, s, b⟩ = o at *
      have Co := Lib.hid Co
      have Hsp := Lib.hid hsp
      clear hv hsz hnl hsp
      by_cases hz : n < p
      · have q1 : o < 0 := Hsp.out.2 hz
        have q2 : (n : Int) < (p : Int) := by omega
        have q3 : decide (o < 0) = true := decide_eq_true q1
        have q4 : decide ((n : Int) < (p : Int)) = true := decide_eq_true q2
        clear hz
        go_wp2_with fail
        go_region_with (go_at_call 27; (with_reducible refine Co.out.mono ?_); rintro q w6 ⟨rfl, hB6⟩; have hb6 : Below w5.heap.size w5 w6 := hBd.trans (hB6.mono hBd.size))
        all_goals (
          go_wp2_with fail
          go_roundw
          case rel => exact ⟨n + 1, by go_num, by omega, hb6⟩
          case measure => simp [intOf]; omega)
      · have q1 : ¬ o < 0 := fun h => hz (Hsp.out.1 h)
        have q2 : ¬ (n : Int) < (p : Int) := by omega
        have q3 : decide (o < 0) = false := decide_eq_false q1
        have q4 : decide ((n : Int) < (p : Int)) = false := decide_eq_false q2
        clear hz
        go_wp2_with fail
        go_region_with (go_at_call 27; (with_reducible refine Co.out.mono ?_); rintro q w6 ⟨rfl, hB6⟩; have hb6 : Below w5.heap.size w5 w6 := hBd.trans (hB6.mono hBd.size))
        all_goals (
          go_wp2_with fail
          go_roundw
          case rel => exact ⟨n + 1, by go_num, by omega, hb6⟩
          case measure => simp [intOf]; omega)
    · have hkI : ¬ (n : Int) < m := by omega
      have hbz := hb5.trans (hB.mono hb5.size)
      by_cases hpm2 : p < m
      · have hpl : p < vs.length := by rw [← Hm.out]; exact hpm2
        obtain ⟨e, f, hR, heB, d0, d1, d2, d3, _⟩ := (HV5.out.below hB).cells (j := p) hpl rfl
        subst hR
        obtain ⟨v, hv⟩ : ∃ v, v = vs.getD p default := ⟨_, rfl⟩
        rw [← hv] at d0 d1 d2 d3
        have heq := fun w => Vc.eqV v.kind v.i v.s v.b k i s b w
        have hpI2 : (p : Int) < (m : Int) := by omega
        have hmm : (⟨k, i, s, b⟩ : Vl) ∈ vs ↔ v = ⟨k, i, s, b⟩ := by
          rw [Hmem.out, getD_at hpl, ← hv]
          exact ⟨fun h => Option.some.inj h, fun h => by rw [h]⟩
        by_cases hz : v = ⟨k, i, s, b⟩
        · obtain rfl : fb = true := Hfb.out.trans (decide_eq_true (hmm.2 hz))
          subst hz
          rw [decide_eq_true (by simp)] at heq
          clear hv hmm hpl
          go_wp2_with fail
          go_quiet (fail)
          go_wp2_with fail
          go_ret
          exact ⟨rfl, Wd.below_drewN hbz _⟩
        · obtain rfl : fb = false := Hfb.out.trans (decide_eq_false fun h => hz (hmm.1 h))
          rw [decide_eq_false (fun h => hz (by obtain ⟨k1, i1, s1, b1⟩ := v; simp only [] at h; obtain ⟨rfl, rfl, rfl, rfl⟩ := h; rfl))] at heq
          clear hv hmm hpl hz
          go_wp2_with fail
          go_quiet (fail)
          go_wp2_with fail
          go_ret
          exact ⟨rfl, Wd.below_drewN hbz _⟩
      · have hd : decide ((p : Int) < (m : Int)) = false := decide_eq_false (by omega)
        have hpI2 : ¬ (p : Int) < (m : Int) := by omega
        obtain rfl : fb = false := Hfb.out.trans (decide_eq_false fun h => by
          have := Hmem.out.1 h
          rw [List.getElem?_eq_none (by rw [← Hm.out]; omega)] at this
          cases this)
        go_wp2_with fail
        go_quiet (fail)
        go_wp2_with fail
        go_ret
        exact ⟨rfl, Wd.below_drewN hbz _⟩
end Lw
end Go.Proofs.Ytiokajaadmfohaa
