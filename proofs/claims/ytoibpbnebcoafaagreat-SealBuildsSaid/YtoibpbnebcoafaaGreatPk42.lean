/- The example of chapter 12 holds: the function awake answers true. -/
import Derived.Test.YtoibpbnebcoafaaGreatPk07
import Derived.Test.YtoibpbnebcoafaaGreatPk37
import Derived.Test.YtoibpbnebcoafaaGreatPk41
import Derived.Test.YtoibpbnebcoafaaGreatPk40
import Derived.Test.YtoibpbnebcoafaaGreatPk23
namespace Go.Proofs.YtoibpbnebcoafaaGreat
set_option maxRecDepth 20000
open Go.RowKit Go.Maps
namespace Se
open Va (Vl May null ord)
open Sc (Sch FitS MayS fits fits_get tr tr_yes tr_no tr_iff tr_congr)
open Sx (smallS small_may Sb five)
open Wd (Cr)
open Ssm (ns)
open Co (build)
/-- The columns of what is sealed are small. -/
theorem lt_built {w : World} {A : Option Addr} {n c : Nat} {os : List Cr} {s : Sch} {x : Seg} {l : List (List Vl)} {offs : List Int} (h : Wd.Cms w A n c os) (hf : Fit s l) (hl : l.length ≤ 1000) (he : Wd.cols os = (sealed s x l offs).cols) : Lt os := by
  intro j hj
  obtain ⟨_, _, _, _, _, h1⟩ := h.at_ j hj
  have hm : (os.getD j default).C ∈ (sealed s x l offs).cols := by
    rw [← he, ← Wd.cols_get, List.getD_eq_getElem?_getD, List.getElem?_eq_getElem (by rw [Wd.cols_len]; exact hj)]
    exact List.getElem_mem _
  obtain ⟨k, hk, e⟩ := sealed_col hm
  have hpl : (pick l (arr s l) k).length ≤ 4096 := by rw [plen]; omega
  have hb := Co.build_ok hpl (pick_ok hf k hk)
  rw [hb] at e
  have e1 := congrArg Co.Col.dict e
  have e2 := congrArg Co.Col.ids e
  have d := h1.dict.len
  have i := h1.ids.len
  rw [e1] at d
  rw [e2] at i
  have dl : (Co.dct (pick l (arr s l) k)).length ≤ (pick l (arr s l) k).length := Co.dct_len
  have hW : Co.wdt (Co.dct (pick l (arr s l) k)) ≤ 62 := Co.wdt_le hpl
  have pl := Bc.packL_len hW (by rw [Co.ids_len]; exact hpl) (Co.ids_in hpl (pick_ok hf k hk))
  rw [Co.ids_len, plen] at pl
  rw [plen] at dl
  have hmul : l.length * Co.wdt (Co.dct (pick l (arr s l) k)) ≤ 1000 * 62 := Nat.mul_le_mul hl hW
  have d' : (os.getD j default).n = (Co.dct (pick l (arr s l) k)).length := d
  have i' : (os.getD j default).m = (Bc.packL (Co.ids (pick l (arr s l) k)) (Co.wdt (Co.dct (pick l (arr s l) k)))).length := i
  exact ⟨by omega, by omega⟩
/-- The chapter's example. -/
def exS : Sch := ⟨smallS.cols, -1, -1, -1, 0⟩
def exR (n : Int) : List Vl := [⟨1, n, ⟨#[]⟩, false⟩, null]
def exL : List (List Vl) := [exR 7, exR 3, exR 7]
def exX : Seg := ⟨0, 1, 0, 9, [], []⟩
theorem exS_may : MayS exS := by
  obtain ⟨a, b, _, _, e, f, g⟩ := small_may
  exact ⟨a, b, by decide, by decide, e, f, .inl ⟨rfl, rfl, rfl⟩⟩
theorem exR_fit {n : Int} (h0 : -9223372036854775808 ≤ n) (h1 : n ≤ 9223372036854775807) : FitS exS (exR n) := by
  refine ⟨exS_may, (fits_get _ _).2 ⟨rfl, fun i hi => ?_⟩⟩
  have hi2 : i < 2 := hi
  match i, hi2 with
  | 0, _ => exact ⟨⟨.inr (.inl ⟨rfl, rfl, rfl⟩), h0, h1⟩, .inl rfl⟩
  | 1, _ => exact ⟨Sc.ok_null, .inr ⟨rfl, rfl⟩⟩
theorem ex_fit : Fit exS exL := ⟨exS_may, fun r hr => by
  have h : r = exR 7 ∨ r = exR 3 ∨ r = exR 7 := by simpa [exL] using hr
  rcases h with rfl | rfl | rfl <;> exact exR_fit (by decide) (by decide)⟩
theorem ex_arg : Arg exS exX exL [2, 4, 6] := ⟨ex_fit, ⟨by decide, by decide, by decide, by decide, by decide, by decide, by decide⟩, rfl, ⟨by decide, by decide, by decide, by decide, by decide, by decide, trivial⟩⟩
theorem ex_cm (a b : Int) : cm exS (exR a) (exR b) = Va.cmpI a b := by
  unfold cm ky
  rw [if_neg (by decide)]
  rfl
theorem ex_arr : arr exS exL = [1, 0, 2] := by
  refine (Ssm.srt_only (wk exS exL) (l := List.range 3) (m := [1, 0, 2]) (by decide) ?_).symm
  have c10 : cf exS exL 1 0 = -1 := (ex_cm 3 7).trans (by decide)
  have c12 : cf exS exL 1 2 = -1 := (ex_cm 3 7).trans (by decide)
  have c02 : cf exS exL 0 2 = 0 := (ex_cm 7 7).trans (by decide)
  refine List.pairwise_cons.2 ⟨fun b hb => ?_, List.pairwise_cons.2 ⟨fun b hb => ?_, List.pairwise_singleton _ _⟩⟩
  · have h : b = 0 ∨ b = 2 := by simpa using hb
    rcases h with rfl | rfl
    · exact .inl (by rw [c10]; decide)
    · exact .inl (by rw [c12]; decide)
  · have h : b = 2 := by simpa using hb
    subst h
    exact .inr ⟨c02, by decide⟩
theorem ex_bld : bld exS exX exL [2, 4, 6] = (sealed exS exX exL [2, 4, 6], [1, 0, 2], 0) := by rw [bld_ok ex_arg (by decide), ex_arr]
theorem ex_offs : (sealed exS exX exL [2, 4, 6]).offs = [4, 2, 6] := by
  show offsOf [2, 4, 6] (arr exS exL) = _
  rw [ex_arr]
  rfl
theorem ex_v1 (n : Int) (h0 : -9223372036854775808 ≤ n) (h1 : n ≤ 9223372036854775807) : ∀ j, j < (exR n).length → Wd.V1 ((exR n).getD j default) := fun j hj => by
  have hj2 : j < 2 := hj
  match j, hj2 with
  | 0, _ => exact Sx.v1_of ⟨.inr (.inl ⟨rfl, rfl, rfl⟩), h0, h1⟩
  | 1, _ => exact Sx.v1_of Sc.ok_null
theorem exL_ls (w1 : World) (w2 : World) (q : Nat) (hq : q = w1.heap.size) (h2 : w2 = (((w1.alloc (.cells #[.int .i64 1, .int .i64 7, .string ⟨#[]⟩, .bool false, .int .i64 0, .int .i64 0, .string ⟨#[]⟩, .bool false] 56)).alloc (.cells #[.int .i64 1, .int .i64 3, .string ⟨#[]⟩, .bool false, .int .i64 0, .int .i64 0, .string ⟨#[]⟩, .bool false] 56)).alloc (.cells #[.int .i64 1, .int .i64 7, .string ⟨#[]⟩, .bool false, .int .i64 0, .int .i64 0, .string ⟨#[]⟩, .bool false] 56)).alloc (.cells #[.slice (some ⟨q, 0, none⟩) 2 2, .slice (some ⟨q + 1, 0, none⟩) 2 2, .slice (some ⟨q + 1 + 1, 0, none⟩) 2 2] 45)) :
    Wd.Ls w2 (some ⟨q + 1 + 1 + 1, 0, none⟩) 3 3 exL ∧ Below w1.heap.size w1 w2 := by
  subst hq
  have s1 : (w1.alloc (.cells #[.int .i64 1, .int .i64 7, .string ⟨#[]⟩, .bool false, .int .i64 0, .int .i64 0, .string ⟨#[]⟩, .bool false] 56)).heap.size = w1.heap.size + 1 := by simp
  have s2 : ((w1.alloc (.cells #[.int .i64 1, .int .i64 7, .string ⟨#[]⟩, .bool false, .int .i64 0, .int .i64 0, .string ⟨#[]⟩, .bool false] 56)).alloc (.cells #[.int .i64 1, .int .i64 3, .string ⟨#[]⟩, .bool false, .int .i64 0, .int .i64 0, .string ⟨#[]⟩, .bool false] 56)).heap.size = w1.heap.size + 1 + 1 := by simp
  have s3 : (((w1.alloc (.cells #[.int .i64 1, .int .i64 7, .string ⟨#[]⟩, .bool false, .int .i64 0, .int .i64 0, .string ⟨#[]⟩, .bool false] 56)).alloc (.cells #[.int .i64 1, .int .i64 3, .string ⟨#[]⟩, .bool false, .int .i64 0, .int .i64 0, .string ⟨#[]⟩, .bool false] 56)).alloc (.cells #[.int .i64 1, .int .i64 7, .string ⟨#[]⟩, .bool false, .int .i64 0, .int .i64 0, .string ⟨#[]⟩, .bool false] 56)).heap.size = w1.heap.size + 1 + 1 + 1 := by simp
  have r1 : Wd.RowV w2 w1.heap.size (exR 7) := by
    rw [h2]
    exact (((Wd.Bx.new w1 56 (Wd.flatV (exR 7)).toArray).alloc _).alloc _).alloc _
  have r2 : Wd.RowV w2 (w1.heap.size + 1) (exR 3) := by
    have := ((Wd.Bx.new (w1.alloc (.cells #[.int .i64 1, .int .i64 7, .string ⟨#[]⟩, .bool false, .int .i64 0, .int .i64 0, .string ⟨#[]⟩, .bool false] 56)) 56 (Wd.flatV (exR 3)).toArray).alloc (.cells #[.int .i64 1, .int .i64 7, .string ⟨#[]⟩, .bool false, .int .i64 0, .int .i64 0, .string ⟨#[]⟩, .bool false] 56)).alloc (.cells #[.slice (some ⟨w1.heap.size, 0, none⟩) 2 2, .slice (some ⟨w1.heap.size + 1, 0, none⟩) 2 2, .slice (some ⟨w1.heap.size + 1 + 1, 0, none⟩) 2 2] 45)
    rw [s1] at this
    rw [h2]
    exact this
  have r3 : Wd.RowV w2 (w1.heap.size + 1 + 1) (exR 7) := by
    have := (Wd.Bx.new ((w1.alloc (.cells #[.int .i64 1, .int .i64 7, .string ⟨#[]⟩, .bool false, .int .i64 0, .int .i64 0, .string ⟨#[]⟩, .bool false] 56)).alloc (.cells #[.int .i64 1, .int .i64 3, .string ⟨#[]⟩, .bool false, .int .i64 0, .int .i64 0, .string ⟨#[]⟩, .bool false] 56)) 56 (Wd.flatV (exR 7)).toArray).alloc (.cells #[.slice (some ⟨w1.heap.size, 0, none⟩) 2 2, .slice (some ⟨w1.heap.size + 1, 0, none⟩) 2 2, .slice (some ⟨w1.heap.size + 1 + 1, 0, none⟩) 2 2] 45)
    rw [s2] at this
    rw [h2]
    exact this
  have r4 : Wd.Bx w2 (w1.heap.size + 1 + 1 + 1) 45 [Value.slice (some ⟨w1.heap.size, 0, none⟩) 2 2, .slice (some ⟨w1.heap.size + 1, 0, none⟩) 2 2, .slice (some ⟨w1.heap.size + 1 + 1, 0, none⟩) 2 2].toArray := by
    have := Wd.Bx.new (((w1.alloc (.cells #[.int .i64 1, .int .i64 7, .string ⟨#[]⟩, .bool false, .int .i64 0, .int .i64 0, .string ⟨#[]⟩, .bool false] 56)).alloc (.cells #[.int .i64 1, .int .i64 3, .string ⟨#[]⟩, .bool false, .int .i64 0, .int .i64 0, .string ⟨#[]⟩, .bool false] 56)).alloc (.cells #[.int .i64 1, .int .i64 7, .string ⟨#[]⟩, .bool false, .int .i64 0, .int .i64 0, .string ⟨#[]⟩, .bool false] 56)) 45 #[Value.slice (some ⟨w1.heap.size, 0, none⟩) 2 2, .slice (some ⟨w1.heap.size + 1, 0, none⟩) 2 2, .slice (some ⟨w1.heap.size + 1 + 1, 0, none⟩) 2 2]
    rw [s3] at this
    rw [h2]
    exact this
  have v7 := ex_v1 7 (by decide) (by decide)
  have v3 := ex_v1 3 (by decide) (by decide)
  refine ⟨Wd.Ls.of_bx r4 ⟨rfl, fun j hj => ?_⟩ 3 rfl (by unfold maxLen; omega), by rw [h2]; exact ((((Below.refl _ _).alloc (Nat.le_refl _) _).alloc (by simp) _).alloc (by simp; omega) _).alloc (by simp; omega) _⟩
  have hj3 : j < 3 := hj
  match j, hj3 with
  | 0, _ => exact ⟨_, _, _, rfl, r1.vs 2 rfl (by unfold maxLen; omega) v7⟩
  | 1, _ => exact ⟨_, _, _, rfl, r2.vs 2 rfl (by unfold maxLen; omega) v3⟩
  | 2, _ => exact ⟨_, _, _, rfl, r3.vs 2 rfl (by unfold maxLen; omega) v7⟩
set_option maxHeartbeats 4000000 in
theorem awake_any (w : World) : Calls Tryz.prog 9 #[] w fun e w' => e = .returned (.bool true) ∧ Below w.heap.size w w' := by
  have Cs := Lib.hid (Sx.Small_any w)
  go_enter Tryz.func9, Tryz.ntmps9
  go_wp2_with fail
  refine Cs.out.mono ?_
  rintro e w1 ⟨A, rfl, hS1, hB1⟩
  have HS1 := Lib.hid hS1
  have HB1 := Lib.hid hB1
  clear hS1 hB1 Cs
  obtain ⟨w2, hw2⟩ : ∃ w2, w2 = ((((w1.alloc (.cells #[.slice A 2 2, .int .i64 (-1), .int .i64 (-1), .int .i64 (-1), .int .i64 0] 24)).alloc (.cells #[.int .i64 1, .int .i64 7, .string ⟨#[]⟩, .bool false, .int .i64 0, .int .i64 0, .string ⟨#[]⟩, .bool false] 56)).alloc (.cells #[.int .i64 1, .int .i64 3, .string ⟨#[]⟩, .bool false, .int .i64 0, .int .i64 0, .string ⟨#[]⟩, .bool false] 56)).alloc (.cells #[.int .i64 1, .int .i64 7, .string ⟨#[]⟩, .bool false, .int .i64 0, .int .i64 0, .string ⟨#[]⟩, .bool false] 56)).alloc (.cells #[.slice (some ⟨w1.heap.size + 1, 0, none⟩) 2 2, .slice (some ⟨w1.heap.size + 1 + 1, 0, none⟩) 2 2, .slice (some ⟨w1.heap.size + 1 + 1 + 1, 0, none⟩) 2 2] 45) := ⟨_, rfl⟩
  have hsz : w1.heap.size + 1 = (w1.alloc (.cells #[.slice A 2 2, .int .i64 (-1), .int .i64 (-1), .int .i64 (-1), .int .i64 0] 24)).heap.size := by simp
  obtain ⟨hL2, hb2⟩ := exL_ls (w1.alloc (.cells #[.slice A 2 2, .int .i64 (-1), .int .i64 (-1), .int .i64 (-1), .int .i64 0] 24)) w2 (w1.heap.size + 1) hsz hw2
  have sb : Sb w2 w1.heap.size A 2 2 (-1) (-1) (-1) 0 := Wd.Bx.below (Wd.Bx.new w1 24 #[.slice A 2 2, .int .i64 (-1), .int .i64 (-1), .int .i64 (-1), .int .i64 0]) (by simp) hb2
  have hb12 : Below w1.heap.size w1 w2 := ((Below.refl _ _).alloc (Nat.le_refl _) (.cells #[.slice A 2 2, .int .i64 (-1), .int .i64 (-1), .int .i64 (-1), .int .i64 0] 24)).trans (hb2.mono (by simp))
  have HL2 := Lib.hid hL2
  have SB2 := Lib.hid sb
  have HB2 := Lib.hid (HB1.out.trans (hb12.mono HB1.out.size))
  have HS2 := Lib.hid (HS1.out.below hb12)
  have Hw2 := Lib.hid hw2
  obtain ⟨c0, c1, c2, c3, c4⟩ := five sb
  clear hw2 hL2 hb2 sb hb12 hsz HB1 HS1
  go_upto_region 4 with fail
  rw [← Hw2.out]
  have al := (Below.refl w2.heap.size w2).alloc (Nat.le_refl _) (.cells #[.int .i64 2, .int .i64 4, .int .i64 6] 3)
  have Cb := build_any A 2 2 exS none 0 0 none 0 0 [] exX (some ⟨w1.heap.size + 1 + 1 + 1 + 1, 0, none⟩) 3 3 exL (some ⟨w2.heap.size, 0, none⟩) 3 3 [2, 4, 6] (w2.alloc (.cells #[.int .i64 2, .int .i64 4, .int .i64 6] 3)) (HS2.out.below al) ⟨Wd.Sl.none_ _ _, Wd.Cms.none_ _, rfl, (fun _ h => by cases h), by decide, by decide, by decide, by decide⟩ (HL2.out.below al) (Wd.Sl.lit w2 .i64 [2, 4, 6] 3 _ 3 rfl rfl (by unfold maxLen; omega)) (fun z hz => by
    have h : z = 2 ∨ z = 4 ∨ z = 6 := by simpa using hz
    rcases h with rfl | rfl | rfl <;> decide) (by omega) (by omega)
  rw [ex_bld] at Cb
  have Cb : Hid (Calls Tryz.prog 13 #[.agg #[.slice A 2 2, .int .i64 (-1), .int .i64 (-1), .int .i64 (-1), .int .i64 0], .agg #[.int .i64 0, .int .i64 1, .int .i64 0, .int .i64 9, .slice none 0 0, .slice none 0 0], .slice (some ⟨w1.heap.size + 1 + 1 + 1 + 1, 0, none⟩) 3 3, .slice (some ⟨w2.heap.size, 0, none⟩) 3 3] (w2.alloc (.cells #[.int .i64 2, .int .i64 4, .int .i64 6] 3)) fun e w' => ∃ OA on oc CA cn cc os QA qn qc, e = .returned (.tuple #[.agg #[.int .i64 0, .int .i64 1, .int .i64 0, .int .i64 9, .slice OA on oc, .slice CA cn cc], .slice QA qn qc, .int .i64 0]) ∧ Sg w' OA on oc CA cn cc os (sealed exS exX exL [2, 4, 6]) ∧ Wd.Sl w' .i64 QA qn qc [1, 0, 2] ∧ Below (w2.alloc (.cells #[.int .i64 2, .int .i64 4, .int .i64 6] 3)).heap.size (w2.alloc (.cells #[.int .i64 2, .int .i64 4, .int .i64 6] 3)) w') := Lib.hid Cb
  have Hal := Lib.hid al
  clear al
  go_wp2_with fail
  refine Cb.out.mono ?_
  rintro e w3 ⟨OA, on, oc, CA, cn, cc, os, QA, qn, qc, rfl, hX3, hQ3, hB3⟩
  have h23 : Below w2.heap.size w2 w3 := Hal.out.trans (hB3.mono Hal.out.size)
  have al4 := (Below.refl w3.heap.size w3).alloc (Nat.le_refl _) (.cells #[.int .i64 0, .int .i64 1, .int .i64 0, .int .i64 9, .slice OA on oc, .slice CA cn cc] 28)
  have x4 := Gb.new w3 0 1 0 9 OA on oc CA cn cc
  obtain ⟨w4, hw4⟩ : ∃ w4, w4 = w3.alloc (.cells #[.int .i64 0, .int .i64 1, .int .i64 0, .int .i64 9, .slice OA on oc, .slice CA cn cc] 28) := ⟨_, rfl⟩
  rw [← hw4] at al4 x4
  have B24 := Lib.hid (h23.trans (al4.mono h23.size))
  have X4 := Lib.hid x4
  have S4 := Lib.hid (SB2.out.below SB2.out.lt B24.out)
  have HX4 := Lib.hid (hX3.below al4)
  have HQ4 := Lib.hid (hQ3.below al4)
  have Hw4 := Lib.hid hw4
  have hx3 := x4.lt
  clear hX3 hQ3 hB3 h23 al4 x4 hw4 Cb Hal c0 c1 c2 c3 c4
  go_upto_region 5 with fail
  rw [← Hw4.out]
  have al5 := (Below.refl w4.heap.size w4).alloc (Nat.le_refl _) (.cells #[.int .i64 1, .int .i64 0, .int .i64 2] 3)
  have C5 := Lib.hid (Nc.ints_yes QA (some ⟨w4.heap.size, 0, none⟩) qn 3 qc 3 [1, 0, 2] [1, 0, 2] _ (HQ4.out.below al5) (Wd.Sl.lit w4 .i64 [1, 0, 2] 3 _ 3 rfl rfl (by unfold maxLen; omega)) rfl)
  have Al5 := Lib.hid al5
  clear al5
  go_wp2_with fail
  refine C5.out.mono ?_
  rintro e w5 ⟨rfl, hB5⟩
  have B45 := Lib.hid (Al5.out.trans (hB5.mono Al5.out.size))
  have X5 := Lib.hid (X4.out.below X4.out.lt B45.out)
  have HX5 := Lib.hid (HX4.out.below B45.out)
  have S5 := Lib.hid (S4.out.below S4.out.lt B45.out)
  obtain ⟨-, -, -, -, d4, -⟩ := Gb.six X5.out
  have al6 := (Below.refl w5.heap.size w5).alloc (Nat.le_refl _) (.cells #[.int .i64 4, .int .i64 2, .int .i64 6] 3)
  have C6 := Lib.hid (Nc.ints_yes OA (some ⟨w5.heap.size, 0, none⟩) on 3 oc 3 _ [4, 2, 6] _ (HX5.out.below al6).offs (Wd.Sl.lit w5 .i64 [4, 2, 6] 3 _ 3 rfl rfl (by unfold maxLen; omega)) ex_offs)
  have Al6 := Lib.hid al6
  clear al6 hB5 C5 Al5
  go_wp2_with fail
  refine C6.out.mono ?_
  rintro e w6 ⟨rfl, hB6⟩
  have B56 := Lib.hid (Al6.out.trans (hB6.mono Al6.out.size))
  have X6 := Lib.hid (X5.out.below X5.out.lt B56.out)
  have HX6 := Lib.hid (HX5.out.below B56.out)
  have S6 := Lib.hid (S5.out.below S5.out.lt B56.out)
  have B26 := Lib.hid (B24.out.trans ((B45.out.trans (B56.out.mono B45.out.size)).mono B24.out.size))
  have hcn : cn = 2 := by have := HX6.out.num; rw [this]; simp [sealed, colsOf_len]; rfl
  have hon : on = 3 := by have := HX6.out.offs.len; rw [this, ex_offs]; rfl
  subst hcn hon
  have hlt : Lt os := lt_built HX6.out.cols ex_fit (by decide) HX6.out.eq.symm
  have Cm := may_any A 2 2 exS OA 3 oc CA 2 cc os _ w6 (HS2.out.below B26.out) HX6.out hlt (by omega) (by omega) (by omega)
  rw [tr_yes (sealed_ok ex_arg (by decide))] at Cm
  have Cm : Hid (Calls Tryz.prog 26 #[.agg #[.slice A 2 2, .int .i64 (-1), .int .i64 (-1), .int .i64 (-1), .int .i64 0], .agg #[.int .i64 0, .int .i64 1, .int .i64 0, .int .i64 9, .slice OA 3 oc, .slice CA 2 cc]] w6 fun e w' => e = .returned (.bool true) ∧ Below w6.heap.size w6 w') := Lib.hid Cm
  obtain ⟨c0, c1, c2, c3, c4⟩ := five S6.out
  obtain ⟨d0, d1, d2, d3, d4, d5⟩ := Gb.six X6.out
  have Hlt := Lib.hid hlt
  clear hB6 C6 Al6 hlt
  go_wp2_with fail
  refine Cm.out.mono ?_
  rintro e w7 ⟨rfl, hB7⟩
  have X7 := Lib.hid (X6.out.below X6.out.lt hB7)
  have Cr := rows_any OA 3 oc CA 2 cc os _ w7 (HX6.out.below hB7) Hlt.out (by omega) (by omega)
  have Cr : Hid (Calls Tryz.prog 24 #[.agg #[.int .i64 0, .int .i64 1, .int .i64 0, .int .i64 9, .slice OA 3 oc, .slice CA 2 cc]] w7 (OutL w7 (rows (sealed exS exX exL [2, 4, 6])))) := Lib.hid Cr
  have B27 := Lib.hid (B26.out.trans (hB7.mono B26.out.size))
  clear hB7 Cm c0 c1 c2 c3 c4 d0 d1 d2 d3 d4 d5
  obtain ⟨d0, d1, d2, d3, d4, d5⟩ := Gb.six X7.out
  go_wp2_with fail
  refine Cr.out.mono ?_
  rintro e w8 ⟨LA, ln, lc, rfl, hL8, hB8⟩
  have hln : ln = 3 := by rw [hL8.len, rows_len, ex_offs]; rfl
  subst hln
  have B28 := Lib.hid (B27.out.trans (hB8.mono B27.out.size))
  clear hL8 hB8 Cr
  go_wp2_with fail
  go_ret
  exact ⟨rfl, HB2.out.trans (B28.out.mono HB2.out.size)⟩
end Se
end Go.Proofs.YtoibpbnebcoafaaGreat
