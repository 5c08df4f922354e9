/- The walk of the statement SchemaApart of layer 7. -/
import Derived.Test.YtdmgjeipkpbojaaDoorScAwake
import Derived.Test.YtdmgjeipkpbojaaDoorScFew
import Derived.Test.YtdmgjeipkpbojaaDoorScLaid
import Derived.Test.YtdmgjeipkpbojaaDoorRows
namespace Go.Proofs.YtdmgjeipkpbojaaDoor
set_option maxRecDepth 20000
open Go.RowKit
namespace Lw
open Sx
open Sc (Col Sch tr tr_yes tr_no MayS FitS enc enc_inj enc_apart enc_len mayS_pos fits)
open Va (Vl)
open Er (Gl gl_of_laid)
/-- What two rows' bytes say of them. -/
theorem apart_says {s : Sch} {u v : List Vl} (hu : FitS s u) (hv : FitS s v) :
    encE s u = 0 ∧ encE s v = 0 ∧ (tr (u = v) == decide (encL s u = encL s v)) = true ∧ ((encL s u).length < (encL s v).length → decide (encL s u = (encL s v).take (encL s u).length) = false) ∧ (encL s u).length ≤ 600 := by
  have e1 : encL s u = enc s.cols u := by unfold encL; rw [if_pos (tr_yes hu)]
  have e2 : encL s v = enc s.cols v := by unfold encL; rw [if_pos (tr_yes hv)]
  refine ⟨by unfold encE; rw [if_pos (tr_yes hu)], by unfold encE; rw [if_pos (tr_yes hv)], ?_, fun h => ?_, ?_⟩
  · rw [e1, e2]
    by_cases q : u = v
    · rw [tr_yes q, q]; simp
    · rw [tr_no q, decide_eq_false fun z => q (enc_inj (mayS_pos hu.1) hu.2 hv.2 z)]; rfl
  · rw [e1, e2] at h ⊢
    exact decide_eq_false (enc_apart (mayS_pos hu.1) hu.2 hv.2 h)
  · rw [e1]
    have := enc_len hu.2
    have := hu.1.2.1
    omega
set_option maxHeartbeats 8000000 in
theorem schemaApart_walk (A : Option Addr) (n c : Nat) (s : Sch) (R : Option Addr) (m d : Nat) (us : List Vl) (T : Option Addr) (p q : Nat) (vs : List Vl) (w : World) (hS : Wd.Cs w A n c s.cols) (_u : Wd.Sch1 s) (hU : Wd.Vs w R m d us) (hV : Wd.Vs w T p q vs) (hL : laidMetH Tryd.prog Rows.schemaApartRow.laid w) :
    Calls Tryd.prog 7 #[.agg #[.slice A n c, .int .i64 s.key, .int .i64 s.cmp, .int .i64 s.del, .int .i64 s.sort], .slice R m d, .slice T p q] w fun e w' => e = .returned (.bool true) ∧ Below w.heap.size w w' := by
  obtain ⟨aM, aN, aB, hG⟩ := gl_of_laid hL
  have hb0 := (Below.refl w.heap.size w).alloc (Nat.le_refl _) (.cells #[.slice A n c, .int .i64 s.key, .int .i64 s.cmp, .int .i64 s.del, .int .i64 s.sort] 24)
  have s0 : Sb (w.alloc (.cells #[.slice A n c, .int .i64 s.key, .int .i64 s.cmp, .int .i64 s.del, .int .i64 s.sort] 24)) w.heap.size A n c s.key s.cmp s.del s.sort := Wd.Bx.new w _ _
  have HS := Lib.hid (hS.below hb0)
  have HU := Lib.hid (hU.below hb0)
  have HV := Lib.hid (hV.below hb0)
  have HG := Lib.hid (hG.below hb0)
  have Hl := Lib.hid hS.len
  clear hS hU hV hG hL
  have hf : ∃ r, r = tr (FewS s) := ⟨_, rfl⟩
  obtain ⟨f, hf⟩ := hf
  obtain ⟨l1, hl1⟩ : ∃ r, r = tr (LightS us) := ⟨_, rfl⟩
  obtain ⟨l2, hl2⟩ : ∃ r, r = tr (LightS vs) := ⟨_, rfl⟩
  have CF := fun w (hS : Wd.Cs w A n c s.cols) => Few_any A n c s w hS
  have CL1 := fun w (hV : Wd.Vs w R m d us) => Light_any R m d us w hV
  have CL2 := fun w (hV : Wd.Vs w T p q vs) => Light_any T p q vs w hV
  rw [← hf] at CF
  rw [← hl1] at CL1
  rw [← hl2] at CL2
  have HF := Lib.hid hf
  have CF := Lib.hid CF
  have CL1 := Lib.hid CL1
  have CL2 := Lib.hid CL2
  clear hf hl1 hl2
  go_enter Tryd.func7, Tryd.ntmps7
  go_wp2_with fail
  generalize w.alloc (.cells #[.slice A n c, .int .i64 s.key, .int .i64 s.cmp, .int .i64 s.del, .int .i64 s.sort] 24) = wa at *
  refine (awake_any wa HG.out).mono ?_
  rintro e w1 ⟨rfl, hB1⟩
  have hb1 := hb0.trans (hB1.mono hb0.size)
  have s1 := s0.below (Wd.Bx.lt s0) hB1
  have HS1 := Lib.hid (HS.out.below hB1)
  have HU1 := Lib.hid (HU.out.below hB1)
  have HV1 := Lib.hid (HV.out.below hB1)
  obtain ⟨p0, p1, p2, p3, p4⟩ := five s1
  clear HS HU HV HG s0 hB1 hb0
  go_wp2_with fail
  refine (CF.out w1 HS1.out).mono ?_
  rintro e w2 ⟨rfl, hB2⟩
  have hb2 := hb1.trans (hB2.mono hb1.size)
  have s2 := s1.below (Wd.Bx.lt s1) hB2
  have HS2 := Lib.hid (HS1.out.below hB2)
  have HU2 := Lib.hid (HU1.out.below hB2)
  have HV2 := Lib.hid (HV1.out.below hB2)
  clear p0 p1 p2 p3 p4
  obtain ⟨p0, p1, p2, p3, p4⟩ := five s2
  clear s1 HS1 HU1 HV1 hB2 hb1 CF
  go_wp2_with fail
  refine (CL1.out w2 HU2.out).mono ?_
  rintro e w2' ⟨rfl, rfl⟩
  go_wp2_with fail
  refine (CL2.out w2' HV2.out).mono ?_
  rintro e w3 ⟨rfl, rfl⟩
  clear CL1 CL2
  cases f
  · cases l1 <;> cases l2 <;> (go_wp2_with fail; go_ret; exact ⟨rfl, hb2⟩)
  cases l1
  · cases l2 <;> (go_wp2_with fail; go_ret; exact ⟨rfl, hb2⟩)
  cases l2
  · go_wp2_with fail
    go_ret
    exact ⟨rfl, hb2⟩
  have hF : FewS s := by
    by_cases hF : FewS s
    · exact hF
    · have := HF.out; rw [tr_no hF] at this; cases this
  have hn : n ≤ 1000000 := by have := hF.1; have := Hl.out; omega
  clear hF HF
  obtain ⟨fa, hfa⟩ : ∃ r, r = tr (FitS s us) := ⟨_, rfl⟩
  obtain ⟨fb, hfb⟩ : ∃ r, r = tr (FitS s vs) := ⟨_, rfl⟩
  have C1 := Lib.hid (Fits_any A n c s R m d us w3 HS2.out HU2.out hn)
  rw [← hfa] at C1
  have Hfa := Lib.hid hfa
  have Hfb := Lib.hid hfb
  clear hfa hfb
  go_wp2_with fail
  refine C1.out.mono ?_
  rintro e w4 ⟨rfl, hB4⟩
  have hb4 := hb2.trans (hB4.mono hb2.size)
  have s4 := s2.below (Wd.Bx.lt s2) hB4
  have HS4 := Lib.hid (HS2.out.below hB4)
  have HU4 := Lib.hid (HU2.out.below hB4)
  have HV4 := Lib.hid (HV2.out.below hB4)
  clear p0 p1 p2 p3 p4
  obtain ⟨p0, p1, p2, p3, p4⟩ := five s4
  clear s2 HS2 HU2 HV2 hB4 hb2 C1
  cases fa
  · go_wp2_with fail
    go_ret
    exact ⟨rfl, hb4⟩
  have C2 := Lib.hid (Fits_any A n c s T p q vs w4 HS4.out HV4.out hn)
  rw [← Hfb.out] at C2
  go_wp2_with fail
  refine C2.out.mono ?_
  rintro e w5 ⟨rfl, hB5⟩
  have hb5 := hb4.trans (hB5.mono hb4.size)
  have s5 := s4.below (Wd.Bx.lt s4) hB5
  have HS5 := Lib.hid (HS4.out.below hB5)
  have HU5 := Lib.hid (HU4.out.below hB5)
  have HV5 := Lib.hid (HV4.out.below hB5)
  clear p0 p1 p2 p3 p4
  obtain ⟨p0, p1, p2, p3, p4⟩ := five s5
  clear s4 HS4 HU4 HV4 hB5 hb4 C2
  cases fb
  · go_wp2_with fail
    go_ret
    exact ⟨rfl, hb5⟩
  have hu : FitS s us := by
    by_cases hF : FitS s us
    · exact hF
    · have := Hfa.out; rw [tr_no hF] at this; cases this
  have hv : FitS s vs := by
    by_cases hF : FitS s vs
    · exact hF
    · have := Hfb.out; rw [tr_no hF] at this; cases this
  obtain ⟨e1, e2, e3, e4, e5⟩ := apart_says hu hv
  have C3 := Encode_any A n c s R m d us w5 HS5.out HU5.out hn
  have C4 := fun w hS hV => Encode_any A n c s T p q vs w hS hV hn
  rw [e1] at C3
  simp only [e2] at C4
  clear hu hv Hfa Hfb e1 e2
  generalize encL s us = xs at *
  generalize encL s vs = ys at *
  have C3 := Lib.hid C3
  have C4 := Lib.hid C4
  have E3 := Lib.hid e3
  have E4 := Lib.hid e4
  have E5 := Lib.hid e5
  clear e3 e4 e5
  go_wp2_with fail
  refine C3.out.mono ?_
  rintro e w6 ⟨A6, n6, c6, rfl, hX6, hB6⟩
  have hb6 := hb5.trans (hB6.mono hb5.size)
  have s6 := s5.below (Wd.Bx.lt s5) hB6
  have C5 := Lib.hid (C4.out w6 (HS5.out.below hB6) (HV5.out.below hB6))
  have HU6 := Lib.hid (HU5.out.below hB6)
  have HV6 := Lib.hid (HV5.out.below hB6)
  have HX6 := Lib.hid hX6
  clear p0 p1 p2 p3 p4
  obtain ⟨p0, p1, p2, p3, p4⟩ := five s6
  clear s5 HS5 HU5 HV5 hB6 hb5 C3 C4 hX6
  go_wp2_with fail
  refine C5.out.mono ?_
  rintro e w7 ⟨A7, n7, c7, rfl, hY7, hB7⟩
  have hb7 := hb6.trans (hB7.mono hb6.size)
  have HX7 := Lib.hid (HX6.out.below hB7)
  have HY7 := Lib.hid hY7
  have C6 := Lib.hid (sameV_any R m d us T p q vs w7 (HU6.out.below hB7) (HV6.out.below hB7))
  obtain ⟨r1, hr1⟩ : ∃ r, r = tr (us = vs) := ⟨_, rfl⟩
  rw [← hr1] at C6 E3
  clear p0 p1 p2 p3 p4 s6 hB7 HU6 HV6 C5 hY7 hr1 hb6
  go_wp2_with fail
  refine C6.out.mono ?_
  rintro e w8 ⟨rfl, hB8⟩
  have hb8 := hb7.trans (hB8.mono hb7.size)
  have HX8 := Lib.hid (HX7.out.below hB8)
  have HY8 := Lib.hid (HY7.out.below hB8)
  have C7 := Lib.hid (Nc.same_any A6 A7 n6 n7 c6 c7 xs ys w8 HX8.out HY8.out)
  have hnx := HX8.out.len
  have hny := HY8.out.len
  have hcy := HY8.out.cap
  have hmy := HY8.out.max
  have E5' : n6 ≤ 600 := by rw [hnx]; exact E5.out
  have Hnx := Lib.hid hnx
  have Hny := Lib.hid hny
  clear hB8 HX7 HY7 C6 hb7 hnx hny E5
  go_wp2_with fail
  refine C7.out.mono ?_
  rintro e w9 ⟨rfl, dr, hdr⟩
  have hB9 : Below w8.heap.size w8 w9 := by rw [hdr]; exact Wd.below_drewN (Below.refl _ _) dr
  have hb9 := hb8.trans (hB9.mono hb8.size)
  by_cases hlt : n6 < n7
  · have hltI : (n6 : Int) < (n7 : Int) := by omega
    have hle : ¬ (c7 : Int) < (n6 : Int) := by omega
    have C8 := Nc.same_any A6 A7 n6 n6 c6 c7 xs (ys.take n6) w9 (HX8.out.below hB9) ((HY8.out.below hB9).head n6 (by omega))
    have e4 := E4.out (by rw [← Hnx.out, ← Hny.out]; exact hlt)
    rw [← Hnx.out] at e4
    rw [e4] at C8
    have C8 := Lib.hid C8
    have E3' := E3.out
    clear e4 hdr hB9 hb8 C7 E3 E4 HX8 HY8
    go_wp2_with fail
    refine C8.out.mono ?_
    rintro e w10 ⟨rfl, dr2, hdr2⟩
    have hB10 : Below w9.heap.size w9 w10 := by rw [hdr2]; exact Wd.below_drewN (Below.refl _ _) dr2
    have hb10 := hb9.trans (hB10.mono hb9.size)
    clear hdr2 hB10
    go_wp2_with fail
    go_ret
    exact ⟨by simp, hb10⟩
  · have hltI : ¬ (n6 : Int) < (n7 : Int) := by omega
    have E3' := E3.out
    clear hdr hB9 hb8 C7 E3 E4 HX8 HY8
    go_wp2_with fail
    go_ret
    exact ⟨by simp, hb9⟩
end Lw
end Go.Proofs.YtdmgjeipkpbojaaDoor
