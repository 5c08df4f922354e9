/- The example of chapter 13 holds: the function awake answers true. What the reference functions of layer 3 do: Runs, Same, Sums. What the reference functions of layer 3 do: Deltas. -/
import Derived.Deep.QuietTactic
import Derived.BigQuiet
import Derived.IntWalk
import Derived.Deep.RegionHeld3
import Derived.Deep.DeepCutAuto
import Derived.Test.YtaoeipehpakngaaGreatDoorPa39
import Derived.Test.YtaoeipehpakngaaGreatDoorPa37
import Derived.Test.YtaoeipehpakngaaGreatDoorPa42
import Derived.Test.YtaoeipehpakngaaGreatDoorPa38
import Derived.Test.YtaoeipehpakngaaGreatDoorPa26
import Derived.Test.YtaoeipehpakngaaGreatDoorPa27
import Derived.Test.YtaoeipehpakngaaGreatDoorPa09
namespace Go.Proofs.YtaoeipehpakngaaGreatDoor
set_option maxRecDepth 20000
open Go.RowKit Go.Maps
namespace Fi
open Va (Vl May null ord)
open Sc (Sch FitS MayS fits fits_get tr tr_yes tr_no tr_iff tr_congr)
open Sx (smallS small_may Sb five)
open Wd (Cr)
open Ssm (ns)
open Se (Seg Sg Gb Lt Ok LightG Arg Fit sealed arr pick plen pick_ok sealed_col sealed_offs_len sealed_ok bld_ok exR ex_v1)
theorem light_sealed {s : Sch} {x : Seg} {l : List (List Vl)} {offs : List Int} (hf : Fit s l) (hl : l.length ≤ 20) (hs : s.cols.length ≤ 12) : LightG (sealed s x l offs) := by
  refine ⟨by rw [sealed_offs_len]; omega, by simp [sealed, Se.colsOf_len]; exact hs, fun c hc => ?_⟩
  obtain ⟨k, hk, rfl⟩ := sealed_col hc
  have hpl : (pick l (arr s l) k).length ≤ 4096 := by rw [plen]; omega
  have hm := pick_ok hf k hk
  rw [Co.build_ok hpl hm]
  have dl : (Co.dct (pick l (arr s l) k)).length ≤ (pick l (arr s l) k).length := Co.dct_len
  have hW : Co.wdt (Co.dct (pick l (arr s l) k)) ≤ 62 := Co.wdt_le hpl
  have pl := Bc.packL_len hW (by rw [Co.ids_len]; exact hpl) (Co.ids_in hpl hm)
  rw [Co.ids_len, plen] at pl
  rw [plen] at dl
  have hmul : l.length * Co.wdt (Co.dct (pick l (arr s l) k)) ≤ 20 * 62 := Nat.mul_le_mul hl hW
  refine ⟨show (Co.dct (pick l (arr s l) k)).length ≤ 200 by omega, show (Bc.packL (Co.ids (pick l (arr s l) k)) (Co.wdt (Co.dct (pick l (arr s l) k)))).length ≤ 200 by omega, fun i hi => ?_⟩
  have hi' : i < (Co.dct (pick l (arr s l) k)).length := hi
  have hv : May ((Co.dct (pick l (arr s l) k)).getD i default) := by
    have hr : Dc.Ris (Co.dct (pick l (arr s l) k)) := Co.dct_ris
    refine hr.1 _ ?_
    rw [List.getD_eq_getElem?_getD, List.getElem?_eq_getElem hi']
    exact List.getElem_mem _
  have := Cx.may_size hv
  show ((Co.dct (pick l (arr s l) k)).getD i default).s.size ≤ 300
  omega
def exX : Seg := ⟨0, 1, 0, 5, [], []⟩
theorem ex_fit : Fit smallS [exR 7] := ⟨small_may, fun r hr => by
  obtain rfl : r = exR 7 := by simpa using hr
  refine ⟨small_may, (fits_get _ _).2 ⟨rfl, fun i hi => ?_⟩⟩
  have hi2 : i < 2 := hi
  match i, hi2 with
  | 0, _ => exact ⟨⟨.inr (.inl ⟨rfl, rfl, rfl⟩), by decide, by decide⟩, .inl rfl⟩
  | 1, _ => exact ⟨Sc.ok_null, .inr ⟨rfl, rfl⟩⟩⟩
theorem ex_arg : Arg smallS exX [exR 7] [4] := ⟨ex_fit, ⟨by decide, by decide, by decide, by decide, by decide, by decide, by decide⟩, rfl, ⟨by decide, by decide, trivial⟩⟩
noncomputable def exZ : Seg := sealed smallS exX [exR 7] [4]
theorem exZ_ok : Ok smallS exZ := sealed_ok ex_arg (by decide)
theorem exZ_light : LightG exZ := light_sealed ex_fit (by decide) (by decide)
theorem ex_ls (w1 : World) (w2 : World) (q : Nat) (hq : q = w1.heap.size) (h2 : w2 = (w1.alloc (.cells #[.int .i64 1, .int .i64 7, .string ⟨#[]⟩, .bool false, .int .i64 0, .int .i64 0, .string ⟨#[]⟩, .bool false] 47)).alloc (.cells #[.slice (some ⟨q, 0, none⟩) 2 2] 48)) :
    Wd.Ls w2 (some ⟨q + 1, 0, none⟩) 1 1 [exR 7] ∧ Below w1.heap.size w1 w2 := by
  subst hq
  have s1 : (w1.alloc (.cells #[.int .i64 1, .int .i64 7, .string ⟨#[]⟩, .bool false, .int .i64 0, .int .i64 0, .string ⟨#[]⟩, .bool false] 47)).heap.size = w1.heap.size + 1 := by simp
  have r1 : Wd.RowV w2 w1.heap.size (exR 7) := by
    rw [h2]
    exact (Wd.Bx.new w1 47 (Wd.flatV (exR 7)).toArray).alloc _
  have r4 : Wd.Bx w2 (w1.heap.size + 1) 48 [Value.slice (some ⟨w1.heap.size, 0, none⟩) 2 2].toArray := by
    have := Wd.Bx.new (w1.alloc (.cells #[.int .i64 1, .int .i64 7, .string ⟨#[]⟩, .bool false, .int .i64 0, .int .i64 0, .string ⟨#[]⟩, .bool false] 47)) 48 #[Value.slice (some ⟨w1.heap.size, 0, none⟩) 2 2]
    rw [s1] at this
    rw [h2]
    exact this
  have v7 := ex_v1 7 (by decide) (by decide)
  refine ⟨Wd.Ls.of_bx r4 ⟨rfl, fun j hj => ?_⟩ 1 rfl (by unfold maxLen; omega), by rw [h2]; exact ((Below.refl _ _).alloc (Nat.le_refl _) _).alloc (by simp) _⟩
  have hj3 : j < 1 := hj
  match j, hj3 with
  | 0, _ => exact ⟨_, _, _, rfl, r1.vs 2 rfl (by unfold maxLen; omega) v7⟩
set_option maxHeartbeats 8000000 in
theorem awake_any (w : World) : Calls Tryz.prog 6 #[] w fun e w' => e = .returned (.bool true) ∧ Below w.heap.size w w' := by
  have Cs := Lib.hid (Sx.Small_any w)
  have Cp := Lib.hid fun w => parse_ex w
  have Cn := Lib.hid fun w => name_ex w
  go_enter Tryz.func6, Tryz.ntmps6
  go_wp2_with fail
  refine Cs.out.mono ?_
  rintro e w1 ⟨A, rfl, hS1, hB1⟩
  have HS1 := Lib.hid hS1
  have HB1 := Lib.hid hB1
  clear hS1 hB1 Cs
  obtain ⟨w2, hw2⟩ : ∃ w2, w2 = ((w1.alloc (.cells #[.slice A 2 2, .int .i64 (-1), .int .i64 (-1), .int .i64 (-1), .int .i64 (-1)] 24)).alloc (.cells #[.int .i64 1, .int .i64 7, .string ⟨#[]⟩, .bool false, .int .i64 0, .int .i64 0, .string ⟨#[]⟩, .bool false] 47)).alloc (.cells #[.slice (some ⟨w1.heap.size + 1, 0, none⟩) 2 2] 48) := ⟨_, rfl⟩
  have hsz : w1.heap.size + 1 = (w1.alloc (.cells #[.slice A 2 2, .int .i64 (-1), .int .i64 (-1), .int .i64 (-1), .int .i64 (-1)] 24)).heap.size := by simp
  obtain ⟨hL2, hb2⟩ := ex_ls (w1.alloc (.cells #[.slice A 2 2, .int .i64 (-1), .int .i64 (-1), .int .i64 (-1), .int .i64 (-1)] 24)) w2 (w1.heap.size + 1) hsz hw2
  have sb : Sb w2 w1.heap.size A 2 2 (-1) (-1) (-1) (-1) := Wd.Bx.below (Wd.Bx.new w1 24 #[.slice A 2 2, .int .i64 (-1), .int .i64 (-1), .int .i64 (-1), .int .i64 (-1)]) (by simp) hb2
  have hb12 : Below w1.heap.size w1 w2 := ((Below.refl _ _).alloc (Nat.le_refl _) (.cells #[.slice A 2 2, .int .i64 (-1), .int .i64 (-1), .int .i64 (-1), .int .i64 (-1)] 24)).trans (hb2.mono (by simp))
  have HL2 := Lib.hid hL2
  have SB2 := Lib.hid sb
  have HB2 := Lib.hid (HB1.out.trans (hb12.mono HB1.out.size))
  have HS2 := Lib.hid (HS1.out.below hb12)
  have Hw2 := Lib.hid hw2
  obtain ⟨c0, c1, c2, c3, c4⟩ := five sb
  clear hw2 hL2 hb2 sb hb12 hsz HB1 HS1
  go_wp2_with fail
  rw [← Hw2.out]
  have al := (Below.refl w2.heap.size w2).alloc (Nat.le_refl _) (.cells #[.int .i64 4] 3)
  have zw : w2.heap.size = w1.heap.size + 1 + 1 + 1 := by rw [Hw2.out]; simp
  have Cb := Se.refBuild_any A 2 2 smallS none 0 0 none 0 0 [] exX (some ⟨w1.heap.size + 1 + 1, 0, none⟩) 1 1 [exR 7] (some ⟨w2.heap.size, 0, none⟩) 1 1 [4] (w2.alloc (.cells #[.int .i64 4] 3)) (HS2.out.below al) ⟨Wd.Sl.none_ _ _, Wd.Cms.none_ _, rfl, (fun _ h => by cases h), by decide, by decide, by decide, by decide⟩ (HL2.out.below al) (Wd.Sl.lit w2 .i64 [4] 3 _ 1 rfl rfl (by unfold maxLen; omega)) (fun z hz => by
    obtain rfl : z = 4 := by simpa using hz
    decide) (by omega) (by omega)
  rw [bld_ok ex_arg (by decide)] at Cb
  have Cb : Hid (Calls Tryz.prog 14 #[.agg #[.slice A 2 2, .int .i64 (-1), .int .i64 (-1), .int .i64 (-1), .int .i64 (-1)], .agg #[.int .i64 0, .int .i64 1, .int .i64 0, .int .i64 5, .slice none 0 0, .slice none 0 0], .slice (some ⟨w1.heap.size + 1 + 1, 0, none⟩) 1 1, .slice (some ⟨w1.heap.size + 1 + 1 + 1, 0, none⟩) 1 1] (w2.alloc (.cells #[.int .i64 4] 3)) fun e w' => ∃ OA on oc CA cn cc os QA qn qc, e = .returned (.tuple #[.agg #[.int .i64 0, .int .i64 1, .int .i64 0, .int .i64 5, .slice OA on oc, .slice CA cn cc], .slice QA qn qc, .int .i64 0]) ∧ Sg w' OA on oc CA cn cc os exZ ∧ Wd.Sl w' .i64 QA qn qc (ns (arr smallS [exR 7])) ∧ Below (w2.alloc (.cells #[.int .i64 4] 3)).heap.size (w2.alloc (.cells #[.int .i64 4] 3)) w') := by
    rw [zw] at Cb
    exact Lib.hid Cb
  have Hal := Lib.hid al
  clear al zw
  refine Cb.out.mono ?_
  rintro e w3 ⟨OA, on, oc, CA, cn, cc, os, QA, qn, qc, rfl, hX3, -, hB3⟩
  have h23 : Below w2.heap.size w2 w3 := Hal.out.trans (hB3.mono Hal.out.size)
  have al4 := (Below.refl w3.heap.size w3).alloc (Nat.le_refl _) (.cells #[.int .i64 0, .int .i64 1, .int .i64 0, .int .i64 5, .slice OA on oc, .slice CA cn cc] 28)
  have x4 := Gb.new w3 0 1 0 5 OA on oc CA cn cc
  obtain ⟨w4, hw4⟩ : ∃ w4, w4 = w3.alloc (.cells #[.int .i64 0, .int .i64 1, .int .i64 0, .int .i64 5, .slice OA on oc, .slice CA cn cc] 28) := ⟨_, rfl⟩
  rw [← hw4] at al4 x4
  have B24 := Lib.hid (h23.trans (al4.mono h23.size))
  have X4 := Lib.hid x4
  have S4 := Lib.hid (SB2.out.below SB2.out.lt B24.out)
  have hsg : Sg w4 OA on oc CA cn cc os exZ := hX3.below al4
  have HX4 := Lib.hid hsg
  have hlt := lt_light hsg exZ_light
  have hon : on ≤ 200 := by have := hsg.offs.len; have := exZ_light.1; omega
  have hcn : cn ≤ 12 := by have := hsg.num; have := exZ_light.2.1; omega
  have hgood := light_good hsg exZ_ok exZ_light
  have HG := Lib.hid hgood
  have Ce : Hid (Calls Tryz.prog 9 #[.agg #[.slice A 2 2, .int .i64 (-1), .int .i64 (-1), .int .i64 (-1), .int .i64 (-1)], .agg #[.int .i64 0, .int .i64 1, .int .i64 0, .int .i64 5, .slice OA on oc, .slice CA cn cc]] w4 (Wd.Out2 w4 .u8 (fileB exZ) 0)) := Lib.hid (Encode_yes A 2 2 smallS OA on oc CA cn cc os exZ w4 (HS2.out.below B24.out) hsg hlt (by omega) (by omega) (by omega) exZ_ok hgood)
  have Hw4 := Lib.hid hw4
  clear hX3 hB3 h23 al4 x4 hw4 Cb Hal c0 c1 c2 c3 c4 hsg hlt hgood
  obtain ⟨c0, c1, c2, c3, c4⟩ := five S4.out
  obtain ⟨d0, d1, d2, d3, d4, d5⟩ := Gb.six X4.out
  go_upto_region 3 with fail
  rw [← Hw4.out]
  go_wp2_with fail
  refine Ce.out.mono ?_
  rintro e w5 ⟨B5, n5, c5, rfl, hS5, hB5⟩
  have B25 := Lib.hid (B24.out.trans (hB5.mono B24.out.size))
  have X5 := Lib.hid (X4.out.below X4.out.lt hB5)
  have S5 := Lib.hid (S4.out.below S4.out.lt hB5)
  have HX5 := Lib.hid (HX4.out.below hB5)
  have Cd : Hid (Calls Tryz.prog 12 #[.agg #[.slice A 2 2, .int .i64 (-1), .int .i64 (-1), .int .i64 (-1), .int .i64 (-1)], .slice B5 n5 c5] w5 fun e w' => ∃ PA pn pc DA dn dc ps, e = .returned (.tuple #[.agg #[.int .i64 0, .int .i64 1, .int .i64 0, .int .i64 5, .slice PA pn pc, .slice DA dn dc], .int .i64 0]) ∧ Sg w' PA pn pc DA dn dc ps exZ ∧ Below w5.heap.size w5 w') := Lib.hid (Decode_yes A 2 2 smallS B5 n5 c5 exZ w5 (HS2.out.below B25.out) exZ_ok HG.out (by omega) exZ_light hS5)
  clear hS5 hB5 Ce c0 c1 c2 c3 c4 d0 d1 d2 d3 d4 d5
  obtain ⟨c0, c1, c2, c3, c4⟩ := five S5.out
  go_wp2_with fail
  refine Cd.out.mono ?_
  rintro e w6 ⟨PA, pn, pc, DA, dn, dc, ps, rfl, hY6, hB6⟩
  have al7 := (Below.refl w6.heap.size w6).alloc (Nat.le_refl _) (.cells #[.int .i64 0, .int .i64 1, .int .i64 0, .int .i64 5, .slice PA pn pc, .slice DA dn dc] 28)
  have y7 := Gb.new w6 0 1 0 5 PA pn pc DA dn dc
  obtain ⟨w7, hw7⟩ : ∃ w7, w7 = w6.alloc (.cells #[.int .i64 0, .int .i64 1, .int .i64 0, .int .i64 5, .slice PA pn pc, .slice DA dn dc] 28) := ⟨_, rfl⟩
  rw [← hw7] at al7 y7
  have h57 := hB6.trans (al7.mono hB6.size)
  have B27 := Lib.hid (B25.out.trans (h57.mono B25.out.size))
  have X7 := Lib.hid (X5.out.below X5.out.lt h57)
  have Y7 := Lib.hid y7
  have Cm := Se.refSame_any OA on oc CA cn cc os exZ PA pn pc DA dn dc ps exZ w7 (HX5.out.below h57) (hY6.below al7)
  rw [tr_yes rfl] at Cm
  have Cm : Hid (Calls Tryz.prog 13 #[.agg #[.int .i64 0, .int .i64 1, .int .i64 0, .int .i64 5, .slice OA on oc, .slice CA cn cc], .agg #[.int .i64 0, .int .i64 1, .int .i64 0, .int .i64 5, .slice PA pn pc, .slice DA dn dc]] w7 fun e w' => e = .returned (.bool true) ∧ Below w7.heap.size w7 w') := Lib.hid Cm
  have Hw7 := Lib.hid hw7
  clear hw7 hY6 hB6 al7 y7 h57 Cd c0 c1 c2 c3 c4
  obtain ⟨d0, d1, d2, d3, d4, d5⟩ := Gb.six X7.out
  obtain ⟨e0, e1, e2, e3, e4, e5⟩ := Gb.six Y7.out
  go_upto_region 5 with fail
  rw [← Hw7.out]
  go_wp2_with fail
  refine Cm.out.mono ?_
  rintro e w8 ⟨rfl, hB8⟩
  have B28 := Lib.hid (B27.out.trans (hB8.mono B27.out.size))
  clear hB8 Cm d0 d1 d2 d3 d4 d5 e0 e1 e2 e3 e4 e5
  go_wp2_with fail
  refine (Cp.out _).mono ?_
  rintro e w9 ⟨rfl, hB9⟩
  have B29 := Lib.hid (B28.out.trans (hB9.mono B28.out.size))
  clear hB9
  go_wp2_with fail
  refine (Cn.out _).mono ?_
  rintro e w10 ⟨rfl, rfl⟩
  go_wp2_with fail
  go_ret
  exact ⟨rfl, HB2.out.trans (B29.out.mono HB2.out.size)⟩
end Fi
end Go.Proofs.YtaoeipehpakngaaGreatDoor
namespace Go.Proofs.YtaoeipehpakngaaGreatDoor
set_option maxRecDepth 20000
open Go.RowKit
namespace Rc
theorem own_drewN {w : World} {B : Nat} {e : TypeId} {size n : Nat} {v : Value} {xs : List Value} (h : w.ownsRow B e size v n xs) (q : Nat) : (w.drewN q).ownsRow B e size v n xs := h
def RrI (w : World) (l : List Int) (k : Nat) (v : Value) (wr : World) : Prop :=
  wr.ownsRow w.heap.size 144 2 v (Rn.runs (l.take k)).length ((Wd.cellsR (Rn.runs (l.take k))).map (Value.int .i64)) ∧ Below w.heap.size w wr
set_option maxHeartbeats 2000000 in
theorem refRuns_any (A : Option Addr) (m c : Nat) (l : List Int) (w : World) (hS : Wd.Sl w .i64 A m c l) (hm : m ≤ 1000000) :
    Calls Tryz.prog 104 #[.slice A m c] w (Wd.OutR w (Rn.runs l)) := by
  obtain ⟨i0, hi, hz0, hz1, hz2⟩ := info_parts info_run
  have hl := hS.len
  have Hl := Lib.hid hl
  have hcap := hS.cap
  clear hl
  go_enter Tryz.func104, Tryz.ntmps104
  go_wp2_with fail
  go_loopw [3, 4] (fun v i wr => ∃ (k : Nat), i = .int .i64 k ∧ k ≤ m ∧ Hid (RrI w l k v wr)) (fun _ i _ => m - (intOf i).toNat)
  case atStart => exact ⟨0, rfl, Nat.zero_le _, Lib.hid ⟨World.ownsRow_nil _ _ _ _, Below.refl _ _⟩⟩
  case round =>
    obtain ⟨k, rfl, hk, hI⟩ := hrel
    by_cases hlt : k < m
    · have hkl : k < l.length := by rw [← Hl.out]; exact hlt
      obtain ⟨b, o, rfl, hb, c0⟩ := hS.rd k hkl
      have hB := hI.out.2
      have c1 := (hB.cell (p := ⟨b, o + k, none⟩) hb).trans c0
      obtain ⟨x, hx⟩ : ∃ x, x = l.getD k 0 := ⟨_, rfl⟩
      rw [← hx] at c1
      have Hx := Lib.hid hx
      have htk := Rn.take_next l k 0 hkl
      rw [← hx] at htk
      have hrs := Rn.runs_snoc (l.take k) x
      rw [← htk] at hrs
      have Hrs := Lib.hid hrs
      have i1 : (k : Int) < (m : Int) := by omega
      have hsz := hB.size
      obtain ⟨wo, rfl⟩ : ∃ wo : World, wo = wr := ⟨_, rfl⟩
      clear hx htk hrs c0
      by_cases hk0 : 0 < k
      · have hd : decide ((0 : Int) < (k : Int)) = true := by simp; omega
        obtain ⟨b', o', e', _, d0⟩ := hS.rd (k - 1) (by omega)
        simp only [Option.some.injEq, Addr.mk.injEq, and_true] at e'
        obtain ⟨rfl, rfl⟩ := e'
        have d1 := (hB.cell (p := ⟨b, o + (k - 1), none⟩) hb).trans d0
        obtain ⟨y, hy⟩ : ∃ y, y = l.getD (k - 1) 0 := ⟨_, rfl⟩
        rw [← hy] at d1
        have Hy := Lib.hid hy
        have htk := Rn.take_next l (k - 1) 0 (by omega)
        rw [← hy, show k - 1 + 1 = k by omega] at htk
        have hla := Rn.runs_last (l.take (k - 1)) y
        rw [← htk] at hla
        have hw1 : IntKind.i64.wrap ((k : Int) - 1) = (k : Int) - 1 := IntWalk.i64_in _ (by omega)
        have h01 : (0 : Int) ≤ (k : Int) - 1 := by omega
        have hl1 : (k : Int) - 1 < (m : Int) := by omega
        have ht1 : ((k : Int) - 1).toNat = k - 1 := by omega
        clear hy d0
        by_cases hxy : x = y
        · have hbq : (x == y) = true := by rw [hxy]; simp
          obtain ⟨r, N, hrN⟩ := hla
          have hNm := Rn.runs_mem (l.take k) (y, N) (by rw [hrN]; simp)
          have hNp := Rn.runs_pos (l.take k) (y, N) (by rw [hrN]; simp)
          have hN1 : 1 ≤ N := hNp
          have hN2 : N ≤ 1000000 := by have := hNm.2; rw [List.length_take] at this; simp only at this; omega
          have hown := hI.out.1
          rw [hrN, List.length_append, List.length_cons, List.length_nil] at hown
          obtain ⟨p, hp⟩ : ∃ p, p = r.length := ⟨_, rfl⟩
          rw [← hp] at hown
          obtain ⟨g, cap, rfl⟩ := ownsRow_succ hown
          have hgB : w.heap.size ≤ g := (hown.lt g rfl).1
          have cN := hown.cellAt (p * 2 + 1) (by omega)
          have fN := hown.frozenAt (p * 2 + 1)
          have hst := (hown.stored (p * 2 + 1) (.int .i64 (N + 1))).1
          have ec : (Wd.cellsR (r ++ [(y, N)])).map (Value.int .i64) = (Wd.cellsR r).map (Value.int .i64) ++ [.int .i64 y, .int .i64 N] := by rw [Wd.cellsR_app]; simp [Wd.cellsR]
          have el : ((Wd.cellsR r).map (Value.int .i64)).length = p * 2 := by rw [List.length_map, Wd.cellsR_len, hp]
          rw [ec] at cN hst
          rw [List.getElem?_append_right (by omega), el, show p * 2 + 1 - p * 2 = 1 by omega] at cN
          rw [List.set_append_right _ _ (by omega), el, show p * 2 + 1 - p * 2 = 1 by omega] at hst
          have er : Rn.runs (l.take (k + 1)) = r ++ [(y, N + 1)] := by rw [Hrs.out, hrN, hxy, Rn.addR_same]
          have hI2 : RrI w l (k + 1) (.slice (some ⟨g, 0, none⟩) (p + 1) cap) (wo.setCell ⟨g, p * 2 + 1, none⟩ (.int .i64 (N + 1))) := by
            refine ⟨?_, hB.setCell hgB _⟩
            rw [er, List.length_append, List.length_cons, List.length_nil, ← hp, Wd.cellsR_app]
            simpa [Wd.cellsR] using hst
          have cN' : wo.cell? ⟨g, p * 2 + 1, none⟩ = some (.int .i64 N) := cN
          have Hxy := Lib.hid hxy
          have HI2 := Lib.hid hI2
          have hpl : p ≤ 1000000 := by
            have h1 := Rn.runs_len (l.take k)
            rw [hrN, List.length_append, List.length_take] at h1
            omega
          clear hrN htk hxy hNm hNp hown hst ec el er hI2 cN hp hI
          go_wp2_with fail
          go_quiet (fail)
          go_wp2_with fail
          go_roundw
          case rel => exact ⟨k + 1, by go_num, by omega, Lib.hid ⟨own_drewN HI2.out.1 _, Wd.below_drewN HI2.out.2 _⟩⟩
          case measure => simp [intOf]; omega
        · have hbq : (x == y) = false := by rw [beq_eq_false_iff_ne]; exact hxy
          have hap : Rn.Apart (Rn.runs (l.take k)) x := by rw [htk]; exact Rn.runs_apart _ _ _ (fun e => hxy e.symm)
          have er : Rn.runs (l.take (k + 1)) = Rn.runs (l.take k) ++ [(x, 1)] := by rw [Hrs.out, Rn.addR_new hap]
          have hown := hI.out.1
          have hrl := Rn.runs_len (l.take k)
          rw [List.length_take] at hrl
          have hrl2 : (Rn.runs (l.take k)).length ≤ 1000000 := by omega
          have Her := Lib.hid er
          clear er hrl hap htk hxy hla
          go_wp2_with fail
          go_quiet (fail)
          go_wp2_with (at_builtin; refine wpList_append_own _ rfl (.tmp 35) (.tmp 41) 141 rfl w.heap.size 144 i0 _ 2 16 Tryz.underlying141 hi hz0 hz1 hz2 rfl (by decide) _ _ _ rfl ((own_drewN hown nq).alloc _) ⟨wo.heap.size, 0, none⟩ 1 1 [.int .i64 x, .int .i64 1] rfl rfl (two_new _ _ _ _) (by simp [Value.oneCell']) (by unfold maxLen; omega) (by omega) (by simp; omega) ?_; intro v' w1 hown' hgrow _)
          go_roundw
          case rel => exact ⟨k + 1, by go_num, by omega, Lib.hid ⟨by rw [Her.out, List.length_append, Wd.cellsR_app]; simpa [Wd.cellsR] using hown', ((Wd.below_drewN hB nq).alloc hsz _).grown hgrow (by simp; omega) (fun g hg => (hown.lt g hg).1)⟩⟩
          case measure => simp [intOf]; omega
      · have hd : decide ((0 : Int) < (k : Int)) = false := by simp; omega
        have hap : Rn.Apart (Rn.runs (l.take k)) x := by
          rw [show k = 0 by omega]
          exact Rn.apart_nil x
        have er : Rn.runs (l.take (k + 1)) = Rn.runs (l.take k) ++ [(x, 1)] := by rw [Hrs.out, Rn.addR_new hap]
        have hown := hI.out.1
        have hrl := Rn.runs_len (l.take k)
        rw [List.length_take] at hrl
        have hrl2 : (Rn.runs (l.take k)).length ≤ 1000000 := by omega
        have Her := Lib.hid er
        clear er hrl hap
        go_wp2_with fail
        go_quiet (fail)
        go_wp2_with (at_builtin; refine wpList_append_own _ rfl (.tmp 35) (.tmp 41) 141 rfl w.heap.size 144 i0 _ 2 16 Tryz.underlying141 hi hz0 hz1 hz2 rfl (by decide) _ _ _ rfl ((own_drewN hown nq).alloc _) ⟨wo.heap.size, 0, none⟩ 1 1 [.int .i64 x, .int .i64 1] rfl rfl (two_new _ _ _ _) (by simp [Value.oneCell']) (by unfold maxLen; omega) (by omega) (by simp; omega) ?_; intro v' w1 hown' hgrow _)
        go_roundw
        case rel => exact ⟨k + 1, by go_num, by omega, Lib.hid ⟨by rw [Her.out, List.length_append, Wd.cellsR_app]; simpa [Wd.cellsR] using hown', ((Wd.below_drewN hB nq).alloc hsz _).grown hgrow (by simp; omega) (fun g hg => (hown.lt g hg).1)⟩⟩
        case measure => simp [intOf]; omega
    · have e : l.take k = l := List.take_of_length_le (by have := Hl.out; omega)
      have hown := hI.out.1
      rw [e] at hown
      obtain ⟨A', c', e2, hSr⟩ := Wd.ownR_form hown
      have HSr := Lib.hid hSr
      have HB := Lib.hid hI.out.2
      subst e2
      clear hown e hSr hI
      go_wp2_with fail
      go_ret
      exact ⟨A', _, c', rfl, HSr.out, HB.out⟩
end Rc
namespace Rc
open Nc
theorem cell_grown {w w1 : World} {row : Option Nat} {b i : Nat} {v : Value} (hg : w.grownBy w1 row) (hb : b < w.heap.size) (hn : some b ≠ row) (hc : w.cell? ⟨b, i, none⟩ = some v) : w1.cell? ⟨b, i, none⟩ = some v :=
  (World.cell?_of_block (hg.block b hb hn)).trans hc
set_option maxHeartbeats 2000000 in
theorem refDeltas_any (A : Option Addr) (m c : Nat) (l : List Int) (w : World) (hS : Wd.Sl w .i64 A m c l) (hm : m ≤ 1000000) (hF : Rn.Fits l) :
    Calls Tryz.prog 60 #[.slice A m c] w (Wd.Out w .i64 (Rn.deltas l)) := by
  obtain ⟨i0, hi, hz0, hz1, hz2⟩ := info_parts info_int
  have hl := hS.len
  have hdl := Rn.deltas_len l
  have Hd := Lib.hid (Rn.deltas_get l)
  generalize Rn.deltas l = d at *
  have Hdl := Lib.hid hdl
  have Hl := Lib.hid hl
  have HF := Lib.hid hF
  have hcap := hS.cap
  clear hl hdl hF
  go_enter Tryz.func60, Tryz.ntmps60
  go_wp2_with fail
  go_loopw [3, 4] (fun v i wr => ∃ (k : Nat) (ys : List Int), i = .int .i64 k ∧ k ≤ m ∧ Hid (ys = d.take k) ∧ wr.ownsRow w.heap.size 3 1 v ys.length (ys.map (Value.int .i64)) ∧ Below w.heap.size w wr) (fun _ i _ => m - (intOf i).toNat)
  case atStart => exact ⟨0, [], rfl, Nat.zero_le _, Lib.hid rfl, World.ownsRow_nil _ _ _ _, Below.refl _ _⟩
  case round =>
    obtain ⟨k, ys, rfl, hk, hp, hown, hB⟩ := hrel
    by_cases hlt : k < m
    · have hkl : k < l.length := by rw [← Hl.out]; exact hlt
      have hkd : k < d.length := by rw [Hdl.out]; exact hkl
      obtain ⟨b, o, rfl, hbB, hcell0⟩ := hS.rd k hkl
      have hcell := (hB.cell (p := ⟨b, o + k, none⟩) hbB).trans hcell0
      have hd := Hd.out k hkl
      have htk := Rn.take_next d k 0 hkd
      rw [← hp.out, hd] at htk
      obtain ⟨x, hx⟩ : ∃ x, x = l.getD k 0 := ⟨_, rfl⟩
      have hfx : Rn.Fit x := by rw [hx]; exact Wd.fit_get HF.out k hkl
      rw [← hx] at hcell htk
      have hyl : ys.length ≤ 1000000 := by rw [hp.out, List.length_take]; omega
      have i1 : (k : Int) < (m : Int) := by omega
      have hsz := hB.size
      obtain ⟨wo, rfl⟩ : ∃ wo : World, wo = wr := ⟨_, rfl⟩
      clear hcell0 hd hx
      by_cases hk0 : 0 < k
      · have hd0 : ((k : Int) == 0) = false := by rw [beq_eq_false_iff_ne]; omega
        obtain ⟨b', o', e', _, d0⟩ := hS.rd (k - 1) (by omega)
        simp only [Option.some.injEq, Addr.mk.injEq, and_true] at e'
        obtain ⟨rfl, rfl⟩ := e'
        have d1 := (hB.cell (p := ⟨b, o + (k - 1), none⟩) hbB).trans d0
        have hpv : Rn.prev l k = l.getD (k - 1) 0 := by unfold Rn.prev; rw [if_neg (by omega)]
        rw [hpv] at htk
        obtain ⟨y, hy⟩ : ∃ y, y = l.getD (k - 1) 0 := ⟨_, rfl⟩
        rw [← hy] at d1 htk
        rw [Wd.wr64] at htk
        have Ht := Lib.hid htk
        have hw1 : IntKind.i64.wrap ((k : Int) - 1) = (k : Int) - 1 := IntWalk.i64_in _ (by omega)
        have hw2 : IntKind.i64.wrap (x - y) = wrap64 (x - y) := by rw [Wd.wrap_wr, Wd.wr64]
        have h01 : (0 : Int) ≤ (k : Int) - 1 := by omega
        have hl1 : (k : Int) - 1 < (m : Int) := by omega
        have ht1 : ((k : Int) - 1).toNat = k - 1 := by omega
        have hk2 : (0 : Int) ≤ (k : Int) := by omega
        have hk3 : (1 : Int) ≤ (k : Int) := by omega
        have hk4 : 1 ≤ k := by omega
        have hk5 : (k : Int) < (m : Int) + 1 := by omega
        have hk6 : k < m + 1 := by omega
        have hk7 : (k : Int) ≤ (m : Int) := by omega
        clear hy d0 htk hpv
        go_upto_region 7 with fail
        have hsb : b < (wo.alloc (.cells #[.int .i64 (wrap64 (x - y))] 3)).drew.heap.size := by have := hB.size; simp; omega
        have hnb : some b ≠ Value.ownBlock u3 := fun e => by have := (hown.lt b e.symm).1; omega
        have ha : (wo.alloc (.cells #[.int .i64 (wrap64 (x - y))] 3)).drew.ownsRow w.heap.size 3 1 u3 ys.length (ys.map (Value.int .i64)) := hown.alloc _
        have hr : Wd.Rd (wo.alloc (.cells #[.int .i64 (wrap64 (x - y))] 3)).drew (wo.heap.size + 1) .i64 (some ⟨wo.heap.size, 0, none⟩) [wrap64 (x - y)] := Wd.Rd.lit wo .i64 [wrap64 (x - y)] _ _ rfl
        have hBa : Below w.heap.size w (wo.alloc (.cells #[.int .i64 (wrap64 (x - y))] 3)).drew := (hB.alloc hsz _).drew
        have hlo := hown.lt
        have ec : (wo.alloc (.cells #[.int .i64 (wrap64 (x - y))] 3)).drew.cell? ⟨b, o + k, none⟩ = some (.int .i64 x) := (World.cell?_alloc_lt wo _ ⟨b, o + k, none⟩ (by have := hB.size; simp; omega)).trans hcell
        have ed : (wo.alloc (.cells #[.int .i64 (wrap64 (x - y))] 3)).drew.cell? ⟨b, o + (k - 1), none⟩ = some (.int .i64 y) := (World.cell?_alloc_lt wo _ ⟨b, o + (k - 1), none⟩ (by have := hB.size; simp; omega)).trans d1
        have Hlo := Lib.hid hlo
        have Hec := Lib.hid ec
        have Hed := Lib.hid ed
        have Hnb := Lib.hid hnb
        have hal := hBa.size
        clear hlo ec ed hnb
        go_region_held3 (fun w' => w'.cell? ⟨b, o + k, none⟩ = some (.int .i64 x) ∧ w'.cell? ⟨b, o + (k - 1), none⟩ = some (.int .i64 y)) (first | exact hc2 | go_keep) (first | (refine step_app _ rfl (.tmp 19) (.tmp 30) 25 rfl w.heap.size 3 i0 _ .i64 8 Tryz.underlying25 hi hz0 hz1 hz2 rfl _ ys rfl ha (wo.heap.size + 1) _ 1 1 [wrap64 (x - y)] rfl rfl (by simp) hr (by simp; omega) (by simp [maxLen]; omega) hal ?_; intro v' w1 hown1 hg1; have hb1 := hBa.grown hg1 hal (fun g hg => (Hlo.out g hg).1); have hc2 := And.intro (cell_grown hg1 hsb Hnb.out Hec.out) (cell_grown hg1 hsb Hnb.out Hed.out)))
        go_wp2_with fail
        go_roundw
        case rel => exact ⟨k + 1, _, by go_num, by omega, Lib.hid Ht.out.symm, hown1, hb1⟩
        case measure => simp [intOf]; omega
      · have hd0 : ((k : Int) == 0) = true := by rw [beq_iff_eq]; omega
        have hpv : Rn.prev l k = 0 := by unfold Rn.prev; rw [if_pos (by omega)]
        rw [hpv, Rn.wr_zero hfx] at htk
        have Ht := Lib.hid htk
        have hc0 : wo.cell? ⟨b, o, none⟩ = some (.int .i64 x) := by
          rw [show k = 0 by omega, Nat.add_zero] at hcell
          exact hcell
        clear htk hpv hcell
        have hm0 : 0 < m := by omega
        go_wp2_with (at_builtin; refine Wd.wpList_app _ rfl (.tmp 13) (.tmp 17) 25 rfl w.heap.size 3 i0 _ .i64 8 Tryz.underlying25 hi hz0 hz1 hz2 rfl _ ys rfl (hown.alloc _) (wo.heap.size + 1) _ 1 1 [x] rfl rfl (by simp) (Wd.Rd.lit wo .i64 [x] _ _ rfl) (by simp; omega) (by simp [maxLen]; omega) (by simp; omega) ?_; intro v' w1 hown1 hg1)
        go_roundw
        case rel => exact ⟨k + 1, ys ++ [x], by go_num, by omega, Lib.hid Ht.out.symm, hown1, (hB.alloc hsz _).grown hg1 (by simp; omega) (fun g hg => (hown.lt g hg).1)⟩
        case measure => simp [intOf]; omega
    · go_wp2_with fail
      go_ret
      have e := hp.out
      rw [List.take_of_length_le (by have := Hl.out; have := Hdl.out; omega)] at e
      rw [e] at hown
      exact Wd.Out.of_own hown hB
end Rc
end Go.Proofs.YtaoeipehpakngaaGreatDoor
