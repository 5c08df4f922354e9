/- The walk of the statement SchemaTells of layer 7. -/
import Derived.Test.YtdmgjeipkpbojaaDoorScAwake
import Derived.Test.YtdmgjeipkpbojaaDoorScRefEnc
import Derived.Test.YtdmgjeipkpbojaaDoorScFew
import Derived.Test.YtdmgjeipkpbojaaDoorScLaid
import Derived.Test.YtdmgjeipkpbojaaDoorRows
import Derived.Deep.RegionHeld3
namespace Go.Proofs.YtdmgjeipkpbojaaDoor
set_option maxRecDepth 20000
open Go.RowKit
namespace Lw
open Sx
open Sc (Col Sch tr tr_yes tr_no tr_iff MayS FitS findF)
open Va (Vl)
open Er (Gl gl_of_laid)
set_option maxHeartbeats 8000000 in
theorem schemaTells_walk (A : Option Addr) (n c : Nat) (s : Sch) (R : Option Addr) (m d : Nat) (us : List Vl) (name : ByteArray) (w : World) (hS : Wd.Cs w A n c s.cols) (_u : Wd.Sch1 s) (hU : Wd.Vs w R m d us) (_hx : name.size ≤ maxLen) (hL : laidMetH Tryd.prog Rows.schemaTellsRow.laid w) :
    Calls Tryd.prog 3 #[.agg #[.slice A n c, .int .i64 s.key, .int .i64 s.cmp, .int .i64 s.del, .int .i64 s.sort], .slice R m d, .string name] w fun e w' => e = .returned (.bool true) ∧ Below w.heap.size w w' := by
  obtain ⟨aM, aN, aB, hG⟩ := gl_of_laid hL
  have hb0 := (Below.refl w.heap.size w).alloc (Nat.le_refl _) (.cells #[.slice A n c, .int .i64 s.key, .int .i64 s.cmp, .int .i64 s.del, .int .i64 s.sort] 24)
  have s0 : Sb (w.alloc (.cells #[.slice A n c, .int .i64 s.key, .int .i64 s.cmp, .int .i64 s.del, .int .i64 s.sort] 24)) w.heap.size A n c s.key s.cmp s.del s.sort := Wd.Bx.new w _ _
  have HS := Lib.hid (hS.below hb0)
  have HU := Lib.hid (hU.below hb0)
  have HG := Lib.hid (hG.below hb0)
  have Hl := Lib.hid hS.len
  clear hS hU hG hL
  have hf : ∃ r, r = tr (FewS s) := ⟨_, rfl⟩
  obtain ⟨f, hf⟩ := hf
  obtain ⟨l1, hl1⟩ : ∃ r, r = tr (LightS us) := ⟨_, rfl⟩
  have CF := fun w (hS : Wd.Cs w A n c s.cols) => Few_any A n c s w hS
  have CL1 := fun w (hV : Wd.Vs w R m d us) => Light_any R m d us w hV
  rw [← hf] at CF
  rw [← hl1] at CL1
  have HF := Lib.hid hf
  have CF := Lib.hid CF
  have CL1 := Lib.hid CL1
  clear hf hl1
  go_enter Tryd.func3, Tryd.ntmps3
  go_wp2_with fail
  generalize w.alloc (.cells #[.slice A n c, .int .i64 s.key, .int .i64 s.cmp, .int .i64 s.del, .int .i64 s.sort] 24) = wa at *
  refine (awake_any wa HG.out).mono ?_
  rintro e w1 ⟨rfl, hB1⟩
  have hb1 := hb0.trans (hB1.mono hb0.size)
  have s1 := s0.below (Wd.Bx.lt s0) hB1
  have HS1 := Lib.hid (HS.out.below hB1)
  have HU1 := Lib.hid (HU.out.below hB1)
  have HG1 := Lib.hid (HG.out.below hB1)
  obtain ⟨p0, p1, p2, p3, p4⟩ := five s1
  clear HS HU HG s0 hB1 hb0
  go_wp2_with fail
  refine (CF.out w1 HS1.out).mono ?_
  rintro e w2 ⟨rfl, hB2⟩
  have hb2 := hb1.trans (hB2.mono hb1.size)
  have s2 := s1.below (Wd.Bx.lt s1) hB2
  have HS2 := Lib.hid (HS1.out.below hB2)
  have HU2 := Lib.hid (HU1.out.below hB2)
  have HG2 := Lib.hid (HG1.out.below hB2)
  clear p0 p1 p2 p3 p4
  obtain ⟨p0, p1, p2, p3, p4⟩ := five s2
  clear s1 HS1 HU1 HG1 hB2 hb1 CF
  go_wp2_with fail
  refine (CL1.out w2 HU2.out).mono ?_
  rintro e w3 ⟨rfl, rfl⟩
  clear CL1
  cases f
  · cases l1 <;> (go_wp2_with fail; go_ret; exact ⟨rfl, hb2⟩)
  cases l1
  · go_wp2_with fail
    go_ret
    exact ⟨rfl, hb2⟩
  by_cases hp : name.size ≤ 100
  case neg =>
    have g1 : (100 : Int) < (name.size : Int) := by omega
    clear hp
    go_wp2_with fail
    go_ret
    exact ⟨rfl, hb2⟩
  have g1 : ¬ (100 : Int) < (name.size : Int) := by omega
  have hF : FewS s := tr_iff.1 HF.out.symm
  have hn : n ≤ 1000000 := by have := hF.1; have := Hl.out; omega
  clear hF HF
  have C1 := Encode_any A n c s R m d us w3 HS2.out HU2.out hn
  have C2 := fun w hS hU => refEncode_any A n c s R m d us w hS hU hn
  have M1 := fun w hS => May_any A n c s w hS hn
  have M2 := fun w hS => refMayS_any A n c s w hS hn
  have F1 := fun w hS => Find_any A n c s.cols s.key s.cmp s.del s.sort name w hS hn
  have F2 := fun w hS => refFind_any A n c s.cols s.key s.cmp s.del s.sort name w hS hn
  have T1 := fun w hS hU => Fits_any A n c s R m d us w hS hU hn
  have T2 := fun w hS hU => refFits_any A n c s R m d us w hS hU hn
  generalize encL s us = xs at *
  generalize encE s us = er at *
  generalize tr (MayS s) = mb at *
  generalize tr (FitS s us) = fb at *
  generalize findF s.cols name 0 = fi at *
  have C1 := Lib.hid C1
  have C2 := Lib.hid C2
  have M1 := Lib.hid M1
  have M2 := Lib.hid M2
  have F1 := Lib.hid F1
  have F2 := Lib.hid F2
  have T1 := Lib.hid T1
  have T2 := Lib.hid T2
  go_wp2_with fail
  refine C1.out.mono ?_
  rintro e w4 ⟨A4, n4, c4, rfl, hX4, hB4⟩
  have hb4 := hb2.trans (hB4.mono hb2.size)
  have s4 := s2.below (Wd.Bx.lt s2) hB4
  have HS4 := Lib.hid (HS2.out.below hB4)
  have HU4 := Lib.hid (HU2.out.below hB4)
  have HX4 := Lib.hid hX4
  have C3 := Lib.hid (C2.out w4 HS4.out HU4.out)
  clear p0 p1 p2 p3 p4
  obtain ⟨p0, p1, p2, p3, p4⟩ := five s4
  clear s2 HS2 HU2 HG2 hB4 hb2 C1 C2 hX4
  go_wp2_with fail
  refine C3.out.mono ?_
  rintro e w5 ⟨A5, n5, c5, rfl, hX5, hB5⟩
  have hb5 := hb4.trans (hB5.mono hb4.size)
  have s5 := s4.below (Wd.Bx.lt s4) hB5
  have HS5 := Lib.hid (HS4.out.below hB5)
  have HU5 := Lib.hid (HU4.out.below hB5)
  have C4 := Lib.hid (Nc.same_yes A4 A5 n4 n5 c4 c5 xs xs w5 (HX4.out.below hB5) hX5 rfl)
  clear p0 p1 p2 p3 p4
  obtain ⟨p0, p1, p2, p3, p4⟩ := five s5
  clear s4 HS4 HU4 HX4 hB5 hb4 C3 hX5
  go_wp2_with fail
  refine C4.out.mono ?_
  rintro e w6 ⟨rfl, hB6⟩
  have hb6 := hb5.trans (hB6.mono hb5.size)
  have s6 := s5.below (Wd.Bx.lt s5) hB6
  have HS6 := Lib.hid (HS5.out.below hB6)
  have HU6 := Lib.hid (HU5.out.below hB6)
  clear p0 p1 p2 p3 p4 s5 HS5 HU5 hB6 hb5 C4
  have hb := (Below.refl w6.heap.size w6).drew
  have c0 := five (s6.below (Wd.Bx.lt s6) hb)
  have hee : (er == er) = true := by simp
  have hmm : (mb == mb) = true := by simp
  have hff : (fb == fb) = true := by simp
  have hii : (fi == fi) = true := by simp
  go_wp2_with fail
  go_region_held3 (fun w' => w'.cell? ⟨w.heap.size, 0, none⟩ = some (.slice A n c) ∧ w'.cell? ⟨w.heap.size, 1, none⟩ = some (.int .i64 s.key) ∧ w'.cell? ⟨w.heap.size, 2, none⟩ = some (.int .i64 s.cmp) ∧ w'.cell? ⟨w.heap.size, 3, none⟩ = some (.int .i64 s.del) ∧ w'.cell? ⟨w.heap.size, 4, none⟩ = some (.int .i64 s.sort)) (exact c0) (first | (go_at_call 14; (with_reducible refine (M1.out _ (HS6.out.below hb)).mono ?_); rintro e wz ⟨rfl, hBz⟩; have hb := hb.trans (hBz.mono hb.size); have c0 := five (s6.below (Wd.Bx.lt s6) hb)) | (go_at_call 15; (with_reducible refine (M2.out _ (HS6.out.below hb)).mono ?_); rintro e wz ⟨rfl, hBz⟩; have hb := hb.trans (hBz.mono hb.size); have c0 := five (s6.below (Wd.Bx.lt s6) hb)) | (go_at_call 16; (with_reducible refine (F1.out _ (HS6.out.below hb)).mono ?_); rintro e wz ⟨rfl, hBz⟩; have hb := hb.trans (hBz.mono hb.size); have c0 := five (s6.below (Wd.Bx.lt s6) hb)) | (go_at_call 17; (with_reducible refine (F2.out _ (HS6.out.below hb)).mono ?_); rintro e wz ⟨rfl, hBz⟩; have hb := hb.trans (hBz.mono hb.size); have c0 := five (s6.below (Wd.Bx.lt s6) hb)) | (go_at_call 18; (with_reducible refine (T1.out _ (HS6.out.below hb) (HU6.out.below hb)).mono ?_); rintro e wz ⟨rfl, hBz⟩; have hb := hb.trans (hBz.mono hb.size); have c0 := five (s6.below (Wd.Bx.lt s6) hb)) | (go_at_call 19; (with_reducible refine (T2.out _ (HS6.out.below hb) (HU6.out.below hb)).mono ?_); rintro e wz ⟨rfl, hBz⟩; have hb := hb.trans (hBz.mono hb.size); have c0 := five (s6.below (Wd.Bx.lt s6) hb)))
  all_goals (
    have hb7 := hb6.trans (hb.mono hb6.size)
    go_wp2_with fail
    go_ret
    exact ⟨by simp, hb7⟩)
end Lw
end Go.Proofs.YtdmgjeipkpbojaaDoor
