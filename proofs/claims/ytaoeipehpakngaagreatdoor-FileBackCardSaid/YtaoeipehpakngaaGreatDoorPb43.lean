/- The example of chapter 13 holds: the function awake answers true. What the reference's Few does. From an argument as the statement reads it to the words of this seat: a slice of integers. From an argument as the statement reads it to a column. From an argument as the statement reads it to a segment. -/
import Derived.BigRegion
import Derived.BigQuiet
import Derived.Deep.QuietTactic
import Derived.ProofKit
import Derived.OpenShut
import Derived.Test.YtaoeipehpakngaaGreatDoorPb39
import Derived.Test.YtaoeipehpakngaaGreatDoorPb40
import Derived.Test.YtaoeipehpakngaaGreatDoorPb38
import Derived.Test.YtaoeipehpakngaaGreatDoorPb42
import Derived.Test.YtaoeipehpakngaaGreatDoorPb11
import Derived.Test.YtaoeipehpakngaaGreatDoorPb12
import Derived.Test.YtaoeipehpakngaaGreatDoorPb01
import Derived.Test.YtaoeipehpakngaaGreatDoorPb06
import Derived.Test.YtaoeipehpakngaaGreatDoorPb04
import Derived.Test.YtaoeipehpakngaaGreatDoorPb08
import Derived.Test.YtaoeipehpakngaaGreatDoorPb07
namespace Go.Proofs.YtaoeipehpakngaaGreatDoor
set_option maxRecDepth 20000
open Go.RowKit Go.Maps
namespace Fi
open Va (Vl May null ord)
open Sc (Sch FitS MayS fits fits_get tr tr_yes tr_no tr_iff tr_congr)
open Sx (smallS small_may Sb five)
open Wd (Cr)
open Ssm (ns)
open Se (Seg Sg Gb Lt Ok LightG Arg Fit sealed arr pick plen pick_ok sealed_col sealed_offs_len sealed_ok bld_ok exR ex_v1)
theorem light_sealed {s : Sch} {x : Seg} {l : List (List Vl)} {offs : List Int} (hf : Fit s l) (hl : l.length ≤ 20) (hs : s.cols.length ≤ 12) : LightG (sealed s x l offs) := by
  refine ⟨by rw [sealed_offs_len]; omega, by simp [sealed, Se.colsOf_len]; exact hs, fun c hc => ?_⟩
  obtain ⟨k, hk, rfl⟩ := sealed_col hc
  have hpl : (pick l (arr s l) k).length ≤ 4096 := by rw [plen]; omega
  have hm := pick_ok hf k hk
  rw [Co.build_ok hpl hm]
  have dl : (Co.dct (pick l (arr s l) k)).length ≤ (pick l (arr s l) k).length := Co.dct_len
  have hW : Co.wdt (Co.dct (pick l (arr s l) k)) ≤ 62 := Co.wdt_le hpl
  have pl := Bc.packL_len hW (by rw [Co.ids_len]; exact hpl) (Co.ids_in hpl hm)
  rw [Co.ids_len, plen] at pl
  rw [plen] at dl
  have hmul : l.length * Co.wdt (Co.dct (pick l (arr s l) k)) ≤ 20 * 62 := Nat.mul_le_mul hl hW
  refine ⟨show (Co.dct (pick l (arr s l) k)).length ≤ 200 by omega, show (Bc.packL (Co.ids (pick l (arr s l) k)) (Co.wdt (Co.dct (pick l (arr s l) k)))).length ≤ 200 by omega, fun i hi => ?_⟩
  have hi' : i < (Co.dct (pick l (arr s l) k)).length := hi
  have hv : May ((Co.dct (pick l (arr s l) k)).getD i default) := by
    have hr : Dc.Ris (Co.dct (pick l (arr s l) k)) := Co.dct_ris
    refine hr.1 _ ?_
    rw [List.getD_eq_getElem?_getD, List.getElem?_eq_getElem hi']
    exact List.getElem_mem _
  have := Cx.may_size hv
  show ((Co.dct (pick l (arr s l) k)).getD i default).s.size ≤ 300
  omega
def exX : Seg := ⟨0, 1, 0, 5, [], []⟩
theorem ex_fit : Fit smallS [exR 7] := ⟨small_may, fun r hr => by
  obtain rfl : r = exR 7 := by simpa using hr
  refine ⟨small_may, (fits_get _ _).2 ⟨rfl, fun i hi => ?_⟩⟩
  have hi2 : i < 2 := hi
  match i, hi2 with
  | 0, _ => exact ⟨⟨.inr (.inl ⟨rfl, rfl, rfl⟩), by decide, by decide⟩, .inl rfl⟩
  | 1, _ => exact ⟨Sc.ok_null, .inr ⟨rfl, rfl⟩⟩⟩
theorem ex_arg : Arg smallS exX [exR 7] [4] := ⟨ex_fit, ⟨by decide, by decide, by decide, by decide, by decide, by decide, by decide⟩, rfl, ⟨by decide, by decide, trivial⟩⟩
noncomputable def exZ : Seg := sealed smallS exX [exR 7] [4]
theorem exZ_ok : Ok smallS exZ := sealed_ok ex_arg (by decide)
theorem exZ_light : LightG exZ := light_sealed ex_fit (by decide) (by decide)
theorem ex_ls (w1 : World) (w2 : World) (q : Nat) (hq : q = w1.heap.size) (h2 : w2 = (w1.alloc (.cells #[.int .i64 1, .int .i64 7, .string ⟨#[]⟩, .bool false, .int .i64 0, .int .i64 0, .string ⟨#[]⟩, .bool false] 47)).alloc (.cells #[.slice (some ⟨q, 0, none⟩) 2 2] 48)) :
    Wd.Ls w2 (some ⟨q + 1, 0, none⟩) 1 1 [exR 7] ∧ Below w1.heap.size w1 w2 := by
  subst hq
  have s1 : (w1.alloc (.cells #[.int .i64 1, .int .i64 7, .string ⟨#[]⟩, .bool false, .int .i64 0, .int .i64 0, .string ⟨#[]⟩, .bool false] 47)).heap.size = w1.heap.size + 1 := by simp
  have r1 : Wd.RowV w2 w1.heap.size (exR 7) := by
    rw [h2]
    exact (Wd.Bx.new w1 47 (Wd.flatV (exR 7)).toArray).alloc _
  have r4 : Wd.Bx w2 (w1.heap.size + 1) 48 [Value.slice (some ⟨w1.heap.size, 0, none⟩) 2 2].toArray := by
    have := Wd.Bx.new (w1.alloc (.cells #[.int .i64 1, .int .i64 7, .string ⟨#[]⟩, .bool false, .int .i64 0, .int .i64 0, .string ⟨#[]⟩, .bool false] 47)) 48 #[Value.slice (some ⟨w1.heap.size, 0, none⟩) 2 2]
    rw [s1] at this
    rw [h2]
    exact this
  have v7 := ex_v1 7 (by decide) (by decide)
  refine ⟨Wd.Ls.of_bx r4 ⟨rfl, fun j hj => ?_⟩ 1 rfl (by unfold maxLen; omega), by rw [h2]; exact ((Below.refl _ _).alloc (Nat.le_refl _) _).alloc (by simp) _⟩
  have hj3 : j < 1 := hj
  match j, hj3 with
  | 0, _ => exact ⟨_, _, _, rfl, r1.vs 2 rfl (by unfold maxLen; omega) v7⟩
set_option maxHeartbeats 8000000 in
theorem awake_any (w : World) : Calls Tryz.prog 6 #[] w fun e w' => e = .returned (.bool true) ∧ Below w.heap.size w w' := by
  have Cs := Lib.hid (Sx.Small_any w)
  have Cp := Lib.hid fun w => parse_ex w
  have Cn := Lib.hid fun w => name_ex w
  go_enter Tryz.func6, Tryz.ntmps6
  go_wp2_with fail
  refine Cs.out.mono ?_
  rintro e w1 ⟨A, rfl, hS1, hB1⟩
  have HS1 := Lib.hid hS1
  have HB1 := Lib.hid hB1
  clear hS1 hB1 Cs
  obtain ⟨w2, hw2⟩ : ∃ w2, w2 = ((w1.alloc (.cells #[.slice A 2 2, .int .i64 (-1), .int .i64 (-1), .int .i64 (-1), .int .i64 (-1)] 24)).alloc (.cells #[.int .i64 1, .int .i64 7, .string ⟨#[]⟩, .bool false, .int .i64 0, .int .i64 0, .string ⟨#[]⟩, .bool false] 47)).alloc (.cells #[.slice (some ⟨w1.heap.size + 1, 0, none⟩) 2 2] 48) := ⟨_, rfl⟩
  have hsz : w1.heap.size + 1 = (w1.alloc (.cells #[.slice A 2 2, .int .i64 (-1), .int .i64 (-1), .int .i64 (-1), .int .i64 (-1)] 24)).heap.size := by simp
  obtain ⟨hL2, hb2⟩ := ex_ls (w1.alloc (.cells #[.slice A 2 2, .int .i64 (-1), .int .i64 (-1), .int .i64 (-1), .int .i64 (-1)] 24)) w2 (w1.heap.size + 1) hsz hw2
  have sb : Sb w2 w1.heap.size A 2 2 (-1) (-1) (-1) (-1) := Wd.Bx.below (Wd.Bx.new w1 24 #[.slice A 2 2, .int .i64 (-1), .int .i64 (-1), .int .i64 (-1), .int .i64 (-1)]) (by simp) hb2
  have hb12 : Below w1.heap.size w1 w2 := ((Below.refl _ _).alloc (Nat.le_refl _) (.cells #[.slice A 2 2, .int .i64 (-1), .int .i64 (-1), .int .i64 (-1), .int .i64 (-1)] 24)).trans (hb2.mono (by simp))
  have HL2 := Lib.hid hL2
  have SB2 := Lib.hid sb
  have HB2 := Lib.hid (HB1.out.trans (hb12.mono HB1.out.size))
  have HS2 := Lib.hid (HS1.out.below hb12)
  have Hw2 := Lib.hid hw2
  obtain ⟨c0, c1, c2, c3, c4⟩ := five sb
  clear hw2 hL2 hb2 sb hb12 hsz HB1 HS1
  go_wp2_with fail
  rw [← Hw2.out]
  have al := (Below.refl w2.heap.size w2).alloc (Nat.le_refl _) (.cells #[.int .i64 4] 3)
  have zw : w2.heap.size = w1.heap.size + 1 + 1 + 1 := by rw [Hw2.out]; simp
  have Cb := Se.refBuild_any A 2 2 smallS none 0 0 none 0 0 [] exX (some ⟨w1.heap.size + 1 + 1, 0, none⟩) 1 1 [exR 7] (some ⟨w2.heap.size, 0, none⟩) 1 1 [4] (w2.alloc (.cells #[.int .i64 4] 3)) (HS2.out.below al) ⟨Wd.Sl.none_ _ _, Wd.Cms.none_ _, rfl, (fun _ h => by cases h), by decide, by decide, by decide, by decide⟩ (HL2.out.below al) (Wd.Sl.lit w2 .i64 [4] 3 _ 1 rfl rfl (by unfold maxLen; omega)) (fun z hz => by
    obtain rfl : z = 4 := by simpa using hz
    decide) (by omega) (by omega)
  rw [bld_ok ex_arg (by decide)] at Cb
  have Cb : Hid (Calls Tryz.prog 14 #[.agg #[.slice A 2 2, .int .i64 (-1), .int .i64 (-1), .int .i64 (-1), .int .i64 (-1)], .agg #[.int .i64 0, .int .i64 1, .int .i64 0, .int .i64 5, .slice none 0 0, .slice none 0 0], .slice (some ⟨w1.heap.size + 1 + 1, 0, none⟩) 1 1, .slice (some ⟨w1.heap.size + 1 + 1 + 1, 0, none⟩) 1 1] (w2.alloc (.cells #[.int .i64 4] 3)) fun e w' => ∃ OA on oc CA cn cc os QA qn qc, e = .returned (.tuple #[.agg #[.int .i64 0, .int .i64 1, .int .i64 0, .int .i64 5, .slice OA on oc, .slice CA cn cc], .slice QA qn qc, .int .i64 0]) ∧ Sg w' OA on oc CA cn cc os exZ ∧ Wd.Sl w' .i64 QA qn qc (ns (arr smallS [exR 7])) ∧ Below (w2.alloc (.cells #[.int .i64 4] 3)).heap.size (w2.alloc (.cells #[.int .i64 4] 3)) w') := by
    rw [zw] at Cb
    exact Lib.hid Cb
  have Hal := Lib.hid al
  clear al zw
  refine Cb.out.mono ?_
  rintro e w3 ⟨OA, on, oc, CA, cn, cc, os, QA, qn, qc, rfl, hX3, -, hB3⟩
  have h23 : Below w2.heap.size w2 w3 := Hal.out.trans (hB3.mono Hal.out.size)
  have al4 := (Below.refl w3.heap.size w3).alloc (Nat.le_refl _) (.cells #[.int .i64 0, .int .i64 1, .int .i64 0, .int .i64 5, .slice OA on oc, .slice CA cn cc] 28)
  have x4 := Gb.new w3 0 1 0 5 OA on oc CA cn cc
  obtain ⟨w4, hw4⟩ : ∃ w4, w4 = w3.alloc (.cells #[.int .i64 0, .int .i64 1, .int .i64 0, .int .i64 5, .slice OA on oc, .slice CA cn cc] 28) := ⟨_, rfl⟩
  rw [← hw4] at al4 x4
  have B24 := Lib.hid (h23.trans (al4.mono h23.size))
  have X4 := Lib.hid x4
  have S4 := Lib.hid (SB2.out.below SB2.out.lt B24.out)
  have hsg : Sg w4 OA on oc CA cn cc os exZ := hX3.below al4
  have HX4 := Lib.hid hsg
  have hlt := lt_light hsg exZ_light
  have hon : on ≤ 200 := by have := hsg.offs.len; have := exZ_light.1; omega
  have hcn : cn ≤ 12 := by have := hsg.num; have := exZ_light.2.1; omega
  have hgood := light_good hsg exZ_ok exZ_light
  have HG := Lib.hid hgood
  have Ce : Hid (Calls Tryz.prog 9 #[.agg #[.slice A 2 2, .int .i64 (-1), .int .i64 (-1), .int .i64 (-1), .int .i64 (-1)], .agg #[.int .i64 0, .int .i64 1, .int .i64 0, .int .i64 5, .slice OA on oc, .slice CA cn cc]] w4 (Wd.Out2 w4 .u8 (fileB exZ) 0)) := Lib.hid (Encode_yes A 2 2 smallS OA on oc CA cn cc os exZ w4 (HS2.out.below B24.out) hsg hlt (by omega) (by omega) (by omega) exZ_ok hgood)
  have Hw4 := Lib.hid hw4
  clear hX3 hB3 h23 al4 x4 hw4 Cb Hal c0 c1 c2 c3 c4 hsg hlt hgood
  obtain ⟨c0, c1, c2, c3, c4⟩ := five S4.out
  obtain ⟨d0, d1, d2, d3, d4, d5⟩ := Gb.six X4.out
  go_upto_region 3 with fail
  rw [← Hw4.out]
  go_wp2_with fail
  refine Ce.out.mono ?_
  rintro e w5 ⟨B5, n5, c5, rfl, hS5, hB5⟩
  have B25 := Lib.hid (B24.out.trans (hB5.mono B24.out.size))
  have X5 := Lib.hid (X4.out.below X4.out.lt hB5)
  have S5 := Lib.hid (S4.out.below S4.out.lt hB5)
  have HX5 := Lib.hid (HX4.out.below hB5)
  have Cd : Hid (Calls Tryz.prog 12 #[.agg #[.slice A 2 2, .int .i64 (-1), .int .i64 (-1), .int .i64 (-1), .int .i64 (-1)], .slice B5 n5 c5] w5 fun e w' => ∃ PA pn pc DA dn dc ps, e = .returned (.tuple #[.agg #[.int .i64 0, .int .i64 1, .int .i64 0, .int .i64 5, .slice PA pn pc, .slice DA dn dc], .int .i64 0]) ∧ Sg w' PA pn pc DA dn dc ps exZ ∧ Below w5.heap.size w5 w') := Lib.hid (Decode_yes A 2 2 smallS B5 n5 c5 exZ w5 (HS2.out.below B25.out) exZ_ok HG.out (by omega) exZ_light hS5)
  clear hS5 hB5 Ce c0 c1 c2 c3 c4 d0 d1 d2 d3 d4 d5
  obtain ⟨c0, c1, c2, c3, c4⟩ := five S5.out
  go_wp2_with fail
  refine Cd.out.mono ?_
  rintro e w6 ⟨PA, pn, pc, DA, dn, dc, ps, rfl, hY6, hB6⟩
  have al7 := (Below.refl w6.heap.size w6).alloc (Nat.le_refl _) (.cells #[.int .i64 0, .int .i64 1, .int .i64 0, .int .i64 5, .slice PA pn pc, .slice DA dn dc] 28)
  have y7 := Gb.new w6 0 1 0 5 PA pn pc DA dn dc
  obtain ⟨w7, hw7⟩ : ∃ w7, w7 = w6.alloc (.cells #[.int .i64 0, .int .i64 1, .int .i64 0, .int .i64 5, .slice PA pn pc, .slice DA dn dc] 28) := ⟨_, rfl⟩
  rw [← hw7] at al7 y7
  have h57 := hB6.trans (al7.mono hB6.size)
  have B27 := Lib.hid (B25.out.trans (h57.mono B25.out.size))
  have X7 := Lib.hid (X5.out.below X5.out.lt h57)
  have Y7 := Lib.hid y7
  have Cm := Se.refSame_any OA on oc CA cn cc os exZ PA pn pc DA dn dc ps exZ w7 (HX5.out.below h57) (hY6.below al7)
  rw [tr_yes rfl] at Cm
  have Cm : Hid (Calls Tryz.prog 13 #[.agg #[.int .i64 0, .int .i64 1, .int .i64 0, .int .i64 5, .slice OA on oc, .slice CA cn cc], .agg #[.int .i64 0, .int .i64 1, .int .i64 0, .int .i64 5, .slice PA pn pc, .slice DA dn dc]] w7 fun e w' => e = .returned (.bool true) ∧ Below w7.heap.size w7 w') := Lib.hid Cm
  have Hw7 := Lib.hid hw7
  clear hw7 hY6 hB6 al7 y7 h57 Cd c0 c1 c2 c3 c4
  obtain ⟨d0, d1, d2, d3, d4, d5⟩ := Gb.six X7.out
  obtain ⟨e0, e1, e2, e3, e4, e5⟩ := Gb.six Y7.out
  go_upto_region 5 with fail
  rw [← Hw7.out]
  go_wp2_with fail
  refine Cm.out.mono ?_
  rintro e w8 ⟨rfl, hB8⟩
  have B28 := Lib.hid (B27.out.trans (hB8.mono B27.out.size))
  clear hB8 Cm d0 d1 d2 d3 d4 d5 e0 e1 e2 e3 e4 e5
  go_wp2_with fail
  refine (Cp.out _).mono ?_
  rintro e w9 ⟨rfl, hB9⟩
  have B29 := Lib.hid (B28.out.trans (hB9.mono B28.out.size))
  clear hB9
  go_wp2_with fail
  refine (Cn.out _).mono ?_
  rintro e w10 ⟨rfl, rfl⟩
  go_wp2_with fail
  go_ret
  exact ⟨rfl, HB2.out.trans (B29.out.mono HB2.out.size)⟩
end Fi
end Go.Proofs.YtaoeipehpakngaaGreatDoor
namespace Go.Proofs.YtaoeipehpakngaaGreatDoor
set_option maxRecDepth 20000
open Go.RowKit
namespace Sx
open Sc (Col Sch tr tr_yes tr_no)
open Va (Vl May)
def FewS (s : Sch) : Prop := s.cols.length ≤ 12 ∧ ∀ i, i < s.cols.length → (s.cols.getD i default).name.size ≤ 100
set_option maxHeartbeats 1000000 in
theorem Few_any (A : Option Addr) (n c : Nat) (s : Sch) (w : World) (hS : Wd.Cs w A n c s.cols) :
    Calls Tryz.prog 7 #[.agg #[.slice A n c, .int .i64 s.key, .int .i64 s.cmp, .int .i64 s.del, .int .i64 s.sort]] w fun e w' => e = .returned (.bool (tr (FewS s))) ∧ Below w.heap.size w w' := by
  have hb0 := (Below.refl w.heap.size w).alloc (Nat.le_refl _) (.cells #[.slice A n c, .int .i64 s.key, .int .i64 s.cmp, .int .i64 s.del, .int .i64 s.sort] 24)
  have s0 : Sb (w.alloc (.cells #[.slice A n c, .int .i64 s.key, .int .i64 s.cmp, .int .i64 s.del, .int .i64 s.sort] 24)) w.heap.size A n c s.key s.cmp s.del s.sort := Wd.Bx.new w _ _
  have Hl := Lib.hid hS.len
  have HS := Lib.hid (hS.below hb0)
  have hcap := hS.cap
  obtain ⟨r, hr⟩ : ∃ r, r = tr (FewS s) := ⟨_, rfl⟩
  rw [← hr]
  have Hr := Lib.hid hr
  clear hr hS
  by_cases h12 : 12 < n
  · have e : r = false := by rw [Hr.out]; exact tr_no fun h => by have := h.1; have := Hl.out; omega
    subst e
    have q1 : (12 : Int) < (n : Int) := by omega
    clear h12
    go_enter Tryz.func7, Tryz.ntmps7
    go_wp2_with fail
    go_ret
    exact ⟨rfl, hb0⟩
  have q1 : ¬ (12 : Int) < (n : Int) := by omega
  go_enter Tryz.func7, Tryz.ntmps7
  go_wp2
  generalize w.alloc (.cells #[.slice A n c, .int .i64 s.key, .int .i64 s.cmp, .int .i64 s.del, .int .i64 s.sort] 24) = wa at *
  obtain ⟨p0, p1, p2, p3, p4⟩ := five s0
  go_loopw [3] (fun i wr => ∃ k : Nat, i = .int .i64 k ∧ k ≤ n ∧ Hid (∀ j, j < k → (s.cols.getD j default).name.size ≤ 100) ∧ wr = wa) (fun i _ => n - (intOf i).toNat)
  case atStart => exact ⟨0, rfl, Nat.zero_le _, Lib.hid (fun j hj => by omega), rfl⟩
  case round =>
    obtain ⟨k, rfl, hk, hf, rfl⟩ := hrel
    by_cases hlt : k < n
    · obtain ⟨b, o, hA, hbB, c0, c1, c2, _⟩ := HS.out.cells (j := k) (by rw [← Hl.out]; exact hlt) rfl
      subst hA
      obtain ⟨x, hx⟩ : ∃ x, x = (s.cols.getD k default).name := ⟨_, rfl⟩
      rw [← hx] at c0
      have Hx := Lib.hid hx
      clear hx c1 c2
      by_cases hz : 100 < x.size
      · have e : r = false := by rw [Hr.out]; exact tr_no fun h => by have := h.2 k (by rw [← Hl.out]; exact hlt); rw [← Hx.out] at this; omega
        have He := Lib.hid e
        have hzI : (100 : Int) < (x.size : Int) := by omega
        clear e
        go_wp2_with fail
        go_ret
        exact ⟨by rw [He.out]; rfl, hb0⟩
      · have hzI : ¬ (100 : Int) < (x.size : Int) := by omega
        go_wp2_with fail
        go_roundw
        case rel =>
          refine ⟨k + 1, by go_num, by omega, Lib.hid fun j hj => ?_, by first | rfl | trivial⟩
          by_cases hjk : j = k
          · rw [hjk, ← Hx.out]; omega
          · exact hf.out j (by omega)
        case measure => simp [intOf]; omega
    · have hkI : ¬ (k : Int) < n := by omega
      have e : r = true := by
        rw [Hr.out]
        exact tr_yes ⟨by have := Hl.out; omega, fun i hi => hf.out i (by have := Hl.out; omega)⟩
      have He := Lib.hid e
      clear e hf
      go_wp2_with fail
      go_ret
      exact ⟨by rw [He.out]; rfl, hb0⟩
end Sx
end Go.Proofs.YtaoeipehpakngaaGreatDoor
namespace Go.Proofs.YtaoeipehpakngaaGreatDoor
set_option maxRecDepth 20000
open Go.RowKit Go.ChangeShapes Go.WideShapes
namespace Wd
theorem open_sl {H : Type} {enc : TypeId × Value → H} {P : Program} {W : World} {r : Reach} {base0 base : Nat} {spare : Nat → Bool} {held : Bool} {t e : TypeId} {k : IntKind} {v : Value} {d : DataW H} {ps : List MemPlace}
    (ht : P.underlying t = some (.slice e)) (he : P.underlying e = some (.int k)) (hc : P.cellsOf e = 1) (hok : Value.okWide P W r base0 t v) (h : DataW.Trod enc P W base spare held t v d ps) :
    ∃ A n c xs, v = .slice A n c ∧ Sl W k A n c xs ∧ Fits k xs := by
  obtain ⟨A, n, c, rfl⟩ := okWide_slice ht hok
  obtain ⟨fuel, hf⟩ := h
  rcases open_ints ht he hc hf with ⟨hcs, _⟩ | ⟨x, l, cc, zs, hcs, _, hl, hm, hz, _, hcell, hwz⟩
  · simp [Value.cells] at hcs
    obtain ⟨rfl, rfl, rfl⟩ := hcs
    exact ⟨none, 0, 0, [], rfl, Sl.none_ _ _, fun x hx => by simp at hx⟩
  · simp [Value.cells] at hcs
    obtain ⟨rfl, rfl, rfl⟩ := hcs
    have hlz : n ≤ zs.length := by rw [hz]; split <;> omega
    refine ⟨_, _, _, zs.take n, rfl, ⟨by simp [hlz], hl, hm, by simp, ?_⟩, fun y hy => hwz y (List.mem_of_mem_take hy)⟩
    refine Rd.take (fun j hj => ?_) n
    obtain ⟨b, o, rfl, h1⟩ := ints_at hcell (by omega)
    have h2 := h1 j hj
    exact ⟨b, o, rfl, World.block_lt_of_cell? W ⟨b, o + j, none⟩ h2, h2⟩
end Wd
namespace Wd
open Va (Vl)
section
variable {H : Type} {enc : TypeId × Value → H} {P : Program} {W : World} {r : Reach} {base0 base : Nat} {spare : Nat → Bool} {held : Bool}
theorem open_v1s {t : TypeId} {f0 f1 f2 f3 : Field} (T : VlT P t f0 f1 f2 f3) {fuel : Nat} {cs : List Value} {x : DataW H × List MemPlace} (hl : cs.length = 4) (h : DataW.trod enc P W base spare held fuel t cs = some x) :
    ∃ o : Vl, cs = vals o ∧ V1 o ∧ o.s.size ≤ maxLen := by
  obtain ⟨xs, k, hk, hxy, _, hxl, hf⟩ := DataW.trod_struct T.u h
  match xs, hxl, cs, hl with
  | [y0, y1, y2, y3], _, [v0, v1, v2, v3], _ =>
    have g0 := hf 0 f0 rfl
    have g1 := hf 1 f1 rfl
    have g2 := hf 2 f2 rfl
    have g3 := hf 3 f3 rfl
    simp [T.o0, T.o1, T.o2, T.o3, T.c0, T.c1, T.c2, T.c3] at g0 g1 g2 g3
    obtain ⟨a0, z0, _, w0⟩ := DataW.trod_int T.u0 g0
    obtain ⟨a1, z1, _, w1⟩ := DataW.trod_int T.u1 g1
    obtain ⟨s, z2, _, w2⟩ := DataW.trod_string T.u2 g2
    obtain ⟨b, z3, _⟩ := DataW.trod_bool T.u3 g3
    simp only [List.cons.injEq, and_true] at z0 z1 z2 z3
    subst z0 z1 z2 z3
    exact ⟨⟨a0, a1, s, b⟩, rfl, ⟨w0, w1⟩, w2⟩
theorem open_vsc {t e : TypeId} {f0 f1 f2 f3 : Field} (ht : P.underlying t = some (.slice e)) (T : VlT P e f0 f1 f2 f3) {fuel : Nat} {A : Option Addr} {n c : Nat} {x : DataW H × List MemPlace} (hf : DataW.trod enc P W base spare held fuel t [.slice A n c] = some x) :
    ∃ os, Vs W A n c os ∧ ∀ o ∈ os, o.s.size ≤ maxLen := by
  rcases Go.Deep.open_slice ht hf with ⟨hcs, _⟩ | ⟨a, len, cap, m, k, D, Pl, hcs, _, hl, hm, hmm, _, hx⟩
  · simp at hcs
    obtain ⟨rfl, rfl, rfl⟩ := hcs
    exact ⟨[], Vs.none_ _, fun o ho => by cases ho⟩
  · simp at hcs
    obtain ⟨rfl, rfl, rfl⟩ := hcs
    have hnm : n ≤ m := by rw [hmm]; split <;> omega
    rw [T.c] at hx
    obtain ⟨Y, hY⟩ := Go.Deep.choose_lt (α := Vl) (n := n) (p := fun i y => (∀ j v, (vals y)[j]? = some v → W.cell? (a.add (i * 4 + j)) = some v) ∧ V1 y ∧ y.s.size ≤ maxLen) (fun i hi => by
      obtain ⟨cs', h1, h2⟩ := hx i (by omega)
      obtain ⟨_, hlen, hcell⟩ := World.cells?_some h1
      obtain ⟨o, e1, h3⟩ := open_v1s T hlen h2
      refine ⟨o, fun j v hv => ?_, h3⟩
      have hj : j < 4 := by
        have := (List.getElem?_eq_some_iff.1 hv).1
        simpa [vals] using this
      have h4 := hcell j hj
      rw [Go.Deep.add_add, e1, hv] at h4
      exact h4)
    refine ⟨(List.range n).map Y, ⟨by simp, hl, hm, by simp, fun j hj => ?_⟩, fun o ho => ?_⟩
    · simp only [List.length_map, List.length_range] at hj
      have hg : ((List.range n).map Y).getD j default = Y j := by simp [List.getD, hj]
      obtain ⟨h1, h2⟩ := hY j hj
      obtain ⟨b, off, spot⟩ := a
      have hs : spot = none := by simpa [Addr.add] using World.cell?_spot ((hY 0 (by omega)).1 0 _ rfl)
      subst hs
      have h5 := h1 0 _ rfl
      rw [Addr.add_lit] at h5
      refine ⟨b, off, rfl, World.block_lt_of_cell? W ⟨b, off + (j * 4 + 0), none⟩ h5, fun i v hv => ?_, by rw [hg]; exact h2.1⟩
      rw [hg] at hv
      have := h1 i v hv
      rwa [Addr.add_lit] at this
    · obtain ⟨i, hi, rfl⟩ := List.mem_map.1 ho
      exact (hY i (List.mem_range.1 hi)).2.2
theorem open_sl1 {t e : TypeId} {k : IntKind} {A : Option Addr} {n c : Nat} {fuel : Nat} {x : DataW H × List MemPlace}
    (ht : P.underlying t = some (.slice e)) (he : P.underlying e = some (.int k)) (hc : P.cellsOf e = 1) (hf : DataW.trod enc P W base spare held fuel t [.slice A n c] = some x) :
    ∃ xs, Sl W k A n c xs ∧ Fits k xs := by
  rcases open_ints ht he hc hf with ⟨hcs, _⟩ | ⟨x, l, cc, zs, hcs, _, hl, hm, hz, _, hcell, hwz⟩
  · simp at hcs
    obtain ⟨rfl, rfl, rfl⟩ := hcs
    exact ⟨[], Sl.none_ _ _, fun x hx => by simp at hx⟩
  · simp at hcs
    obtain ⟨rfl, rfl, rfl⟩ := hcs
    have hlz : n ≤ zs.length := by rw [hz]; split <;> omega
    refine ⟨zs.take n, ⟨by simp [hlz], hl, hm, by simp, ?_⟩, fun y hy => hwz y (List.mem_of_mem_take hy)⟩
    refine Rd.take (fun j hj => ?_) n
    obtain ⟨b, o, rfl, h1⟩ := ints_at hcell (by omega)
    have h2 := h1 j hj
    exact ⟨b, o, rfl, World.block_lt_of_cell? W ⟨b, o + j, none⟩ h2, h2⟩
structure ClT (P : Program) (t : TypeId) (f0 f1 f2 : Field) (e y : TypeId) (g0 g1 g2 g3 : Field) : Prop where
  u : P.underlying t = some (.struct #[f0, f1, f2])
  c : P.cellsOf t = 3
  o0 : f0.offset = 0
  o1 : f1.offset = 1
  o2 : f2.offset = 2
  c0 : P.cellsOf f0.type = 1
  c1 : P.cellsOf f1.type = 1
  c2 : P.cellsOf f2.type = 1
  u0 : P.underlying f0.type = some (.int .i64)
  u1 : P.underlying f1.type = some (.slice e)
  u2 : P.underlying f2.type = some (.slice y)
  v : VlT P e g0 g1 g2 g3
  b : P.underlying y = some (.int .u8)
  bc : P.cellsOf y = 1
end
end Wd
end Go.Proofs.YtaoeipehpakngaaGreatDoor
namespace Go.Proofs.YtaoeipehpakngaaGreatDoor
set_option maxRecDepth 20000
namespace Wd
theorem clT : ∃ f0 f1 f2 e y g0 g1 g2 g3, Wd.ClT Tryz.prog 57 f0 f1 f2 e y g0 g1 g2 g3 := by
  obtain ⟨g0, g1, g2, g3, T⟩ := Wd.vlT
  exact ⟨_, _, _, _, _, g0, g1, g2, g3, ⟨Tryz.underlying57, by kernel_rfl, rfl, rfl, rfl, by kernel_rfl, by kernel_rfl, by kernel_rfl, Tryz.underlying3, Tryz.underlying48, Tryz.underlying32, T, Tryz.underlying5, by kernel_rfl⟩⟩
end Wd
end Go.Proofs.YtaoeipehpakngaaGreatDoor
namespace Go.Proofs.YtaoeipehpakngaaGreatDoor
set_option maxRecDepth 20000
open Go.RowKit Go.ChangeShapes Go.WideShapes
namespace Wd
open Va (Vl)
section
variable {H : Type} {enc : TypeId × Value → H} {P : Program} {W : World} {r : Reach} {base0 base : Nat} {spare : Nat → Bool} {held : Bool}
theorem open_cl1 {t : TypeId} {f0 f1 f2 : Field} {e y : TypeId} {g0 g1 g2 g3 : Field} (T : ClT P t f0 f1 f2 e y g0 g1 g2 g3) {fuel : Nat} {cs : List Value} {x : DataW H × List MemPlace} (hl : cs.length = 3) (h : DataW.trod enc P W base spare held fuel t cs = some x) :
    ∃ o : Cr, cs = o.vals ∧ Cr1 W o := by
  obtain ⟨xs, k, hk, hxy, _, hxl, hf⟩ := DataW.trod_struct T.u h
  match xs, hxl, cs, hl with
  | [y0, y1, y2], _, [v0, v1, v2], _ =>
    have q0 := hf 0 f0 rfl
    have q1 := hf 1 f1 rfl
    have q2 := hf 2 f2 rfl
    simp [T.o0, T.o1, T.o2, T.c0, T.c1, T.c2] at q0 q1 q2
    obtain ⟨a0, z0, _, w0⟩ := DataW.trod_int T.u0 q0
    obtain ⟨A, n, c, rfl⟩ := trod_slice_one T.u1 q1
    obtain ⟨B, m, d, rfl⟩ := trod_slice_one T.u2 q2
    obtain ⟨os, hv, hst⟩ := open_vsc T.u1 T.v q1
    obtain ⟨bs, hb, hfit⟩ := open_sl1 T.u2 T.b T.bc q2
    simp only [List.cons.injEq, and_true] at z0
    subst z0
    refine ⟨⟨A, n, c, B, m, d, ⟨a0, os, bs⟩⟩, rfl, ⟨hv, hb, fun x hx => ?_, (bounds_i64 w0).1, (bounds_i64 w0).2, hst⟩⟩
    have := hfit x hx
    simp [Lit.wf, IntKind.min, IntKind.max, IntKind.signed, IntKind.bits] at this
    exact ⟨by omega, by rw [show (2 : Int) ^ 8 = 256 by decide]; omega⟩
theorem open_cms1 {t e : TypeId} {f0 f1 f2 : Field} {e1 y : TypeId} {g0 g1 g2 g3 : Field} (ht : P.underlying t = some (.slice e)) (T : ClT P e f0 f1 f2 e1 y g0 g1 g2 g3) {fuel : Nat} {A : Option Addr} {n c : Nat} {x : DataW H × List MemPlace} (hf : DataW.trod enc P W base spare held fuel t [.slice A n c] = some x) :
    ∃ os, Cms W A n c os := by
  rcases Go.Deep.open_slice ht hf with ⟨hcs, _⟩ | ⟨a, len, cap, m, k, D, Pl, hcs, _, hl, hm, hmm, _, hx⟩
  · simp at hcs
    obtain ⟨rfl, rfl, rfl⟩ := hcs
    exact ⟨[], Cms.none_ _⟩
  · simp at hcs
    obtain ⟨rfl, rfl, rfl⟩ := hcs
    have hnm : n ≤ m := by rw [hmm]; split <;> omega
    rw [T.c] at hx
    obtain ⟨Y, hY⟩ := Go.Deep.choose_lt (α := Cr) (n := n) (p := fun i y => (∀ j v, y.vals[j]? = some v → W.cell? (a.add (i * 3 + j)) = some v) ∧ Cr1 W y) (fun i hi => by
      obtain ⟨cs', h1, h2⟩ := hx i (by omega)
      obtain ⟨_, hlen, hcell⟩ := World.cells?_some h1
      obtain ⟨o, e1, h3⟩ := open_cl1 T hlen h2
      refine ⟨o, fun j v hv => ?_, h3⟩
      have hj : j < 3 := by
        have := (List.getElem?_eq_some_iff.1 hv).1
        simpa [Cr.vals] using this
      have h4 := hcell j hj
      rw [Go.Deep.add_add, e1, hv] at h4
      exact h4)
    refine ⟨(List.range n).map Y, ⟨by simp, hl, hm, by simp, fun j hj => ?_⟩⟩
    simp only [List.length_map, List.length_range] at hj
    have hg : ((List.range n).map Y).getD j default = Y j := by simp [List.getD, hj]
    obtain ⟨h1, h2⟩ := hY j hj
    obtain ⟨b, off, spot⟩ := a
    have hs : spot = none := by simpa [Addr.add] using World.cell?_spot ((hY 0 (by omega)).1 0 _ rfl)
    subst hs
    have h5 := h1 0 _ rfl
    rw [Addr.add_lit] at h5
    refine ⟨b, off, rfl, World.block_lt_of_cell? W ⟨b, off + (j * 3 + 0), none⟩ h5, fun i v hv => ?_, by rw [hg]; exact h2⟩
    rw [hg] at hv
    have := h1 i v hv
    rwa [Addr.add_lit] at this
structure SgT (P : Program) (t : TypeId) (h0 h1 h2 h3 h4 h5 : Field) (i cl : TypeId) (f0 f1 f2 : Field) (e y : TypeId) (g0 g1 g2 g3 : Field) : Prop where
  u : P.underlying t = some (.struct #[h0, h1, h2, h3, h4, h5])
  c : P.cellsOf t = 6
  o0 : h0.offset = 0
  o1 : h1.offset = 1
  o2 : h2.offset = 2
  o3 : h3.offset = 3
  o4 : h4.offset = 4
  o5 : h5.offset = 5
  c0 : P.cellsOf h0.type = 1
  c1 : P.cellsOf h1.type = 1
  c2 : P.cellsOf h2.type = 1
  c3 : P.cellsOf h3.type = 1
  c4 : P.cellsOf h4.type = 1
  c5 : P.cellsOf h5.type = 1
  u0 : P.underlying h0.type = some (.int .i64)
  u1 : P.underlying h1.type = some (.int .i64)
  u2 : P.underlying h2.type = some (.int .i64)
  u3 : P.underlying h3.type = some (.int .i64)
  u4 : P.underlying h4.type = some (.slice i)
  u5 : P.underlying h5.type = some (.slice cl)
  ui : P.underlying i = some (.int .i64)
  ci : P.cellsOf i = 1
  v : ClT P cl f0 f1 f2 e y g0 g1 g2 g3
theorem open_seg {t : TypeId} {h0 h1 h2 h3 h4 h5 : Field} {i c : TypeId} {f0 f1 f2 : Field} {e y : TypeId} {g0 g1 g2 g3 : Field} (T : SgT P t h0 h1 h2 h3 h4 h5 i c f0 f1 f2 e y g0 g1 g2 g3) {v : Value} {d : DataW H} {ps : List MemPlace} (hok : Value.okWide P W r base0 t v) (h : DataW.Trod enc P W base spare held t v d ps) :
    ∃ OA on oc CA cn cc os, ∃ x : Se.Seg, v = .agg #[.int .i64 x.part, .int .i64 x.id, .int .i64 x.st, .int .i64 x.en, .slice OA on oc, .slice CA cn cc] ∧ Se.Sg W OA on oc CA cn cc os x := by
  obtain ⟨cs, rfl, hsz⟩ := okWide_struct T.u hok
  obtain ⟨fuel, h⟩ := h
  obtain ⟨xs, k, hk, hxy, _, hxl, hf⟩ := DataW.trod_struct T.u h
  have hl : cs.toList.length = 6 := by simpa [T.c] using hsz
  simp only [Value.cells] at hf
  obtain ⟨ls⟩ := cs
  simp only [] at hl hf
  match xs, hxl, ls, hl with
  | [y0, y1, y2, y3, y4, y5], _, [v0, v1, v2, v3, v4, v5], _ =>
    have q0 := hf 0 h0 rfl
    have q1 := hf 1 h1 rfl
    have q2 := hf 2 h2 rfl
    have q3 := hf 3 h3 rfl
    have q4 := hf 4 h4 rfl
    have q5 := hf 5 h5 rfl
    simp [T.o0, T.o1, T.o2, T.o3, T.o4, T.o5, T.c0, T.c1, T.c2, T.c3, T.c4, T.c5] at q0 q1 q2 q3 q4 q5
    obtain ⟨a0, z0, _, w0⟩ := DataW.trod_int T.u0 q0
    obtain ⟨a1, z1, _, w1⟩ := DataW.trod_int T.u1 q1
    obtain ⟨a2, z2, _, w2⟩ := DataW.trod_int T.u2 q2
    obtain ⟨a3, z3, _, w3⟩ := DataW.trod_int T.u3 q3
    obtain ⟨OA, on, oc, rfl⟩ := trod_slice_one T.u4 q4
    obtain ⟨CA, cn, cc, rfl⟩ := trod_slice_one T.u5 q5
    obtain ⟨offs, ho, hfit⟩ := open_sl1 T.u4 T.ui T.ci q4
    obtain ⟨os, hc⟩ := open_cms1 T.u5 T.v q5
    simp only [List.cons.injEq, and_true] at z0 z1 z2 z3
    subst z0 z1 z2 z3
    exact ⟨OA, on, oc, CA, cn, cc, os, ⟨a0, a1, a2, a3, offs, cols os⟩, rfl, ⟨ho, hc, rfl, hfit, w0, w1, w2, w3⟩⟩
end
theorem sgT : ∃ h0 h1 h2 h3 h4 h5 i c f0 f1 f2 e y g0 g1 g2 g3, Wd.SgT Tryz.prog 28 h0 h1 h2 h3 h4 h5 i c f0 f1 f2 e y g0 g1 g2 g3 := by
  obtain ⟨f0, f1, f2, e, y, g0, g1, g2, g3, T⟩ := Wd.clT
  exact ⟨_, _, _, _, _, _, _, _, f0, f1, f2, e, y, g0, g1, g2, g3, ⟨Tryz.underlying28, by kernel_rfl, rfl, rfl, rfl, rfl, rfl, rfl, by kernel_rfl, by kernel_rfl, by kernel_rfl, by kernel_rfl, by kernel_rfl, by kernel_rfl, Tryz.underlying3, Tryz.underlying3, Tryz.underlying3, Tryz.underlying3, Tryz.underlying25, Tryz.underlying26, Tryz.underlying3, by kernel_rfl, T⟩⟩
end Wd
end Go.Proofs.YtaoeipehpakngaaGreatDoor
