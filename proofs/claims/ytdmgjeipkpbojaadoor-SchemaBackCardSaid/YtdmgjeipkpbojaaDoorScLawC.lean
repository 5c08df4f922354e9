/- The walk of the statement SchemaBack of layer 7. -/
import Derived.Test.YtdmgjeipkpbojaaDoorScAwake
import Derived.Test.YtdmgjeipkpbojaaDoorScFew
import Derived.Test.YtdmgjeipkpbojaaDoorScLaid
import Derived.Test.YtdmgjeipkpbojaaDoorRows
import Derived.Test.YtdmgjeipkpbojaaDoorNumRead
import Derived.Deep.RegionHeld3
namespace Go.Proofs.YtdmgjeipkpbojaaDoor
set_option maxRecDepth 20000
open Go.RowKit
namespace Lw
open Sx
open Sc (Col Sch tr tr_yes tr_no tr_iff MayS FitS enc dec dec_enc enc_byt enc_len mayS_pos fits)
open Va (Vl)
open Er (Gl gl_of_laid)
/-- What a row's bytes are decoded as. -/
theorem back_says {s : Sch} {vs : List Vl} (h : FitS s vs) :
    encE s vs = 0 ∧ Nm.Byt (encL s vs) ∧ decL s (encL s vs) = vs ∧ decE s (encL s vs) = 0 ∧ (∀ more, more ≠ [] → decE s (encL s vs ++ more) = 7) ∧ (encL s vs).length ≤ 600 := by
  have e1 : encL s vs = enc s.cols vs := by unfold encL; rw [if_pos (tr_yes h)]
  have hd := dec_enc s.cols vs [] (mayS_pos h.1) h.2
  rw [List.append_nil, if_pos rfl] at hd
  rw [e1]
  refine ⟨by unfold encE; rw [if_pos (tr_yes h)], enc_byt h.2, ?_, ?_, fun more hm => ?_, ?_⟩
  · unfold decL; rw [if_pos (tr_yes h.1), hd]
  · unfold decE; rw [if_pos (tr_yes h.1), hd]
  · have := dec_enc s.cols vs more (mayS_pos h.1) h.2
    rw [if_neg hm] at this
    unfold decE; rw [if_pos (tr_yes h.1), this]
  · have := enc_len h.2
    have := h.1.2.1
    omega
theorem back_none {s : Sch} {vs : List Vl} (h : ¬ FitS s vs) : encE s vs = 1 ∧ encL s vs = [] := by
  constructor
  · unfold encE; rw [tr_no h]; rfl
  · unfold encL; rw [tr_no h]; rfl
set_option maxHeartbeats 8000000 in
theorem schemaBack_walk (A : Option Addr) (n c : Nat) (s : Sch) (R : Option Addr) (m d : Nat) (us : List Vl) (T : Option Addr) (p q : Nat) (more : List Int) (w : World) (hS : Wd.Cs w A n c s.cols) (_u : Wd.Sch1 s) (hU : Wd.Vs w R m d us) (hV : Wd.Sl w .u8 T p q more) (hf : Wd.Fits .u8 more) (hL : laidMetH Tryd.prog Rows.schemaBackRow.laid w) :
    Calls Tryd.prog 5 #[.agg #[.slice A n c, .int .i64 s.key, .int .i64 s.cmp, .int .i64 s.del, .int .i64 s.sort], .slice R m d, .slice T p q] w fun e w' => e = .returned (.bool true) ∧ Below w.heap.size w w' := by
  obtain ⟨aM, aN, aB, hG⟩ := gl_of_laid hL
  obtain ⟨j0, hi, hz0, hz1, hz2⟩ := info_parts Nc.info_u8
  have HBy := Lib.hid (byt_of hf)
  have hb0 := (Below.refl w.heap.size w).alloc (Nat.le_refl _) (.cells #[.slice A n c, .int .i64 s.key, .int .i64 s.cmp, .int .i64 s.del, .int .i64 s.sort] 24)
  have s0 : Sb (w.alloc (.cells #[.slice A n c, .int .i64 s.key, .int .i64 s.cmp, .int .i64 s.del, .int .i64 s.sort] 24)) w.heap.size A n c s.key s.cmp s.del s.sort := Wd.Bx.new w _ _
  have HS := Lib.hid (hS.below hb0)
  have HU := Lib.hid (hU.below hb0)
  have HV := Lib.hid (hV.below hb0)
  have HG := Lib.hid (hG.below hb0)
  have Hl := Lib.hid hS.len
  have Hp := Lib.hid hV.len
  clear hS hU hV hG hL hf
  have hf : ∃ r, r = tr (FewS s) := ⟨_, rfl⟩
  obtain ⟨f, hf⟩ := hf
  obtain ⟨l1, hl1⟩ : ∃ r, r = tr (LightS us) := ⟨_, rfl⟩
  have CF := fun w (hS : Wd.Cs w A n c s.cols) => Few_any A n c s w hS
  have CL1 := fun w (hV : Wd.Vs w R m d us) => Light_any R m d us w hV
  rw [← hf] at CF
  rw [← hl1] at CL1
  have HF := Lib.hid hf
  have CF := Lib.hid CF
  have CL1 := Lib.hid CL1
  clear hf hl1
  go_enter Tryd.func5, Tryd.ntmps5
  go_wp2_with fail
  generalize w.alloc (.cells #[.slice A n c, .int .i64 s.key, .int .i64 s.cmp, .int .i64 s.del, .int .i64 s.sort] 24) = wa at *
  refine (awake_any wa HG.out).mono ?_
  rintro e w1 ⟨rfl, hB1⟩
  have hb1 := hb0.trans (hB1.mono hb0.size)
  have s1 := s0.below (Wd.Bx.lt s0) hB1
  have HS1 := Lib.hid (HS.out.below hB1)
  have HU1 := Lib.hid (HU.out.below hB1)
  have HV1 := Lib.hid (HV.out.below hB1)
  have HG1 := Lib.hid (HG.out.below hB1)
  obtain ⟨p0, p1, p2, p3, p4⟩ := five s1
  clear HS HU HV HG s0 hB1 hb0
  go_wp2_with fail
  refine (CF.out w1 HS1.out).mono ?_
  rintro e w2 ⟨rfl, hB2⟩
  have hb2 := hb1.trans (hB2.mono hb1.size)
  have s2 := s1.below (Wd.Bx.lt s1) hB2
  have HS2 := Lib.hid (HS1.out.below hB2)
  have HU2 := Lib.hid (HU1.out.below hB2)
  have HV2 := Lib.hid (HV1.out.below hB2)
  have HG2 := Lib.hid (HG1.out.below hB2)
  clear p0 p1 p2 p3 p4
  obtain ⟨p0, p1, p2, p3, p4⟩ := five s2
  clear s1 HS1 HU1 HV1 HG1 hB2 hb1 CF
  go_wp2_with fail
  refine (CL1.out w2 HU2.out).mono ?_
  rintro e w3 ⟨rfl, rfl⟩
  clear CL1
  cases f
  · cases l1 <;> (go_wp2_with fail; go_ret; exact ⟨rfl, hb2⟩)
  cases l1
  · go_wp2_with fail
    go_ret
    exact ⟨rfl, hb2⟩
  by_cases hp : p ≤ 100
  case neg =>
    have g1 : (100 : Int) < (p : Int) := by omega
    clear hp
    go_wp2_with fail
    go_ret
    exact ⟨rfl, hb2⟩
  have g1 : ¬ (100 : Int) < (p : Int) := by omega
  have hF : FewS s := tr_iff.1 HF.out.symm
  have hn : n ≤ 1000 := by have := hF.1; have := Hl.out; omega
  clear hF HF
  have C1 := Encode_any A n c s R m d us w3 HS2.out HU2.out (by omega)
  have C2 := fun w hS hU => Fits_any A n c s R m d us w hS hU (by omega)
  by_cases hft : FitS s us
  case neg =>
    obtain ⟨e1, e2⟩ := back_none hft
    rw [e1, e2] at C1
    rw [tr_no hft] at C2
    have C1 := Lib.hid C1
    have C2 := Lib.hid C2
    clear e1 e2 hft
    go_wp2_with fail
    refine C1.out.mono ?_
    rintro e w4 ⟨A4, n4, c4, rfl, hX4, hB4⟩
    obtain rfl : n4 = 0 := hX4.len
    have hb4 := hb2.trans (hB4.mono hb2.size)
    have s4 := s2.below (Wd.Bx.lt s2) hB4
    have C3 := Lib.hid (C2.out w4 (HS2.out.below hB4) (HU2.out.below hB4))
    clear p0 p1 p2 p3 p4
    obtain ⟨p0, p1, p2, p3, p4⟩ := five s4
    clear hX4
    go_wp2_with fail
    refine C3.out.mono ?_
    rintro e w5 ⟨rfl, hB5⟩
    have hb5 := hb4.trans (hB5.mono hb4.size)
    go_wp2_with fail
    go_ret
    exact ⟨by simp, hb5⟩
  obtain ⟨e1, e2, e3, e4, e5, e6⟩ := back_says hft
  rw [e1] at C1
  rw [tr_yes hft] at C2
  obtain ⟨xs, hxs⟩ : ∃ xs, xs = encL s us := ⟨_, rfl⟩
  rw [← hxs] at C1 e2 e3 e4 e5 e6
  have C1 := Lib.hid C1
  have C2 := Lib.hid C2
  have E2 := Lib.hid e2
  have E3 := Lib.hid e3
  have E4 := Lib.hid e4
  have E5 := Lib.hid (e5 more)
  have E6 := Lib.hid e6
  clear e1 e2 e3 e4 e5 e6 hft hxs
  go_wp2_with fail
  refine C1.out.mono ?_
  rintro e w4 ⟨A4, n4, c4, rfl, hX4, hB4⟩
  have hb4 := hb2.trans (hB4.mono hb2.size)
  have s4 := s2.below (Wd.Bx.lt s2) hB4
  have HS4 := Lib.hid (HS2.out.below hB4)
  have HU4 := Lib.hid (HU2.out.below hB4)
  have HV4 := Lib.hid (HV2.out.below hB4)
  have HG4 := Lib.hid (HG2.out.below hB4)
  have HX4 := Lib.hid hX4
  have C3 := Lib.hid (C2.out w4 HS4.out HU4.out)
  clear p0 p1 p2 p3 p4
  obtain ⟨p0, p1, p2, p3, p4⟩ := five s4
  clear s2 HS2 HU2 HV2 HG2 hB4 hb2 C1 C2 hX4
  go_wp2_with fail
  refine C3.out.mono ?_
  rintro e w5 ⟨rfl, hB5⟩
  have hb5 := hb4.trans (hB5.mono hb4.size)
  have s5 := s4.below (Wd.Bx.lt s4) hB5
  have HS5 := Lib.hid (HS4.out.below hB5)
  have HU5 := Lib.hid (HU4.out.below hB5)
  have HV5 := Lib.hid (HV4.out.below hB5)
  have HG5 := Lib.hid (HG4.out.below hB5)
  have HX5 := Lib.hid (HX4.out.below hB5)
  have C4 := Decode_any A n c s A4 n4 c4 xs w5 HS5.out HX5.out E2.out HG5.out hn
  rw [E3.out, E4.out] at C4
  have C4 := Lib.hid C4
  clear p0 p1 p2 p3 p4
  obtain ⟨p0, p1, p2, p3, p4⟩ := five s5
  clear s4 HS4 HU4 HV4 HG4 HX4 hB5 hb4 C3
  go_wp2_with fail
  refine C4.out.mono ?_
  rintro e w6 ⟨A6, n6, c6, rfl, hV6, hB6⟩
  have hb6 := hb5.trans (hB6.mono hb5.size)
  have s6 := s5.below (Wd.Bx.lt s5) hB6
  have HS6 := Lib.hid (HS5.out.below hB6)
  have HV6 := Lib.hid (HV5.out.below hB6)
  have HG6 := Lib.hid (HG5.out.below hB6)
  have HX6 := Lib.hid (HX5.out.below hB6)
  have C5 := sameV_any A6 n6 c6 us R m d us w6 hV6 (HU5.out.below hB6)
  rw [tr_yes rfl] at C5
  have C5 := Lib.hid C5
  clear p0 p1 p2 p3 p4
  obtain ⟨p0, p1, p2, p3, p4⟩ := five s6
  clear s5 HS5 HU5 HV5 HG5 HX5 hB6 hb5 C4 hV6
  go_wp2_with fail
  refine C5.out.mono ?_
  rintro e w7 ⟨rfl, hB7⟩
  have hb7 := hb6.trans (hB7.mono hb6.size)
  have s7 := s6.below (Wd.Bx.lt s6) hB7
  have HS7 := Lib.hid (HS6.out.below hB7)
  have HV7 := Lib.hid (HV6.out.below hB7)
  have HG7 := Lib.hid (HG6.out.below hB7)
  have HX7 := Lib.hid (HX6.out.below hB7)
  clear p0 p1 p2 p3 p4
  clear s6 HS6 HV6 HG6 HX6 hB7 hb6 C5
  by_cases hp0 : p = 0
  · subst hp0
    go_wp2_with fail
    go_ret
    exact ⟨by simp, hb7⟩
  have hpI : (0 : Int) < (p : Int) := by omega
  have h7 := E5.out (fun z => hp0 (by have := Hp.out; rw [z] at this; exact this))
  have hx7 := HX7.out
  have hv7 := HV7.out
  have hxl := E6.out
  have hpl : more.length ≤ 100 := by rw [← Hp.out]; exact hp
  have c0 := five (s7.below (Wd.Bx.lt s7) ((Below.refl w7.heap.size w7).drew))
  clear hp0
  go_wp2_with fail
  go_region_held3 (fun w' => w'.cell? ⟨w.heap.size, 0, none⟩ = some (.slice A n c) ∧ w'.cell? ⟨w.heap.size, 1, none⟩ = some (.int .i64 s.key) ∧ w'.cell? ⟨w.heap.size, 2, none⟩ = some (.int .i64 s.cmp) ∧ w'.cell? ⟨w.heap.size, 3, none⟩ = some (.int .i64 s.del) ∧ w'.cell? ⟨w.heap.size, 4, none⟩ = some (.int .i64 s.sort)) (first | exact c0 | exact c8 | exact c9 | exact c10 | go_keep) (first | (refine Wd.step_app _ rfl (.const (.slice none 0 0)) (.tmp 69) 29 rfl w7.heap.size 5 j0 _ .u8 1 Tryd.underlying29 hi hz0 hz1 hz2 rfl (.slice none 0 0) [] rfl (World.ownsRow_nil _ _ _ _) w7.heap.size A4 n4 c4 xs rfl hx7.len hx7.nil hx7.rd (by simp; omega) (by simp [maxLen]; omega) (Nat.le_refl _) ?_; intro v8 w8 hO8 hg8; have hb8 : Below w7.heap.size w7 w8 := Wd.of_drew ((Below.refl w7.heap.size w7.drew).grown hg8 (Nat.le_refl _) (fun g hg => by simp [Value.ownBlock] at hg)); have c8 := five (s7.below (Wd.Bx.lt s7) hb8); have hv8 := hv7.below hb8) | (refine Wd.step_app _ rfl (.tmp 70) (.tmp 71) 29 rfl w7.heap.size 5 j0 _ .u8 1 Tryd.underlying29 hi hz0 hz1 hz2 rfl v8 xs rfl hO8 w8.heap.size T p q more rfl hv8.len hv8.nil hv8.rd (by omega) (by simp [maxLen]; omega) hb8.size ?_; intro v9 w9 hO9 hg9; have hb9 : Below w7.heap.size w7 w9 := hb8.grown hg9 hb8.size (fun g hg => (hO8.lt g hg).1); have c9 := five (s7.below (Wd.Bx.lt s7) hb9); obtain ⟨A9, n9, k9, rfl, hS9⟩ := Wd.Sl.of_own hO9) | (go_at_call 20; (with_reducible refine (Decode_any A n c s A9 n9 k9 (xs ++ more) w9 (HS7.out.below hb9) hS9 (byt_app E2.out HBy.out) (HG7.out.below hb9) hn).mono ?_); rintro e w10 ⟨A10, n10, k10, rfl, -, hB10⟩; have hb11 : Below w7.heap.size w7 w10 := hb9.trans (hB10.mono hb9.size); have c10 := five (s7.below (Wd.Bx.lt s7) hb11)))
  all_goals (
    (try rw [h7])
    have hb10 := hb7.trans (hb11.mono hb7.size)
    go_wp2_with fail
    go_ret
    exact ⟨by simp, hb10⟩)
end Lw
end Go.Proofs.YtdmgjeipkpbojaaDoor
