/- The example of chapter 7 holds: the function awake of layer 7's statements answers true. -/
import Derived.Test.YtdmgjeipkpbojaaDoorScEnc
import Derived.Test.YtdmgjeipkpbojaaDoorScDec
import Derived.Test.YtdmgjeipkpbojaaDoorScFind
import Derived.Test.YtdmgjeipkpbojaaDoorRefSame
namespace Go.Proofs.YtdmgjeipkpbojaaDoor
set_option maxRecDepth 20000
open Go.RowKit
namespace Sx
open Sc (Col Sch tr tr_yes tr_no MayS FitS fits fit1 nameOk enc dec dec_enc mayS_pos findF)
open Va (Vl null)
open Er (Gl)
/-- The schema of the chapter's example. -/
def smallS : Sch := ⟨[⟨⟨#[107]⟩, 1, false⟩, ⟨⟨#[118]⟩, 2, true⟩], -1, -1, -1, -1⟩
def row0 : List Vl := [⟨1, 5, ⟨#[]⟩, false⟩, ⟨2, 0, ⟨#[97]⟩, false⟩]
def row1 : List Vl := [⟨1, 5, ⟨#[]⟩, false⟩, null]
theorem small_may : MayS smallS := by
  refine ⟨by decide, by decide, by decide, by decide, ?_, by decide +kernel, .inl ⟨rfl, rfl, rfl⟩⟩
  intro c hc
  have h : c = ⟨⟨#[107]⟩, 1, false⟩ ∨ c = ⟨⟨#[118]⟩, 2, true⟩ := by simpa [smallS] using hc
  rcases h with rfl | rfl
  · exact ⟨⟨by decide, by decide, fun x hx => by
      obtain rfl : x = 107 := by simpa [show Va.byts ⟨#[107]⟩ = [107] by decide +kernel] using hx
      omega⟩, by decide, by decide⟩
  · exact ⟨⟨by decide, by decide, fun x hx => by
      obtain rfl : x = 118 := by simpa [show Va.byts ⟨#[118]⟩ = [118] by decide +kernel] using hx
      omega⟩, by decide, by decide⟩
theorem ok0 : Sc.Ok ⟨1, 5, ⟨#[]⟩, false⟩ := ⟨.inr (.inl ⟨rfl, rfl, rfl⟩), by decide, by decide⟩
theorem ok1 : Sc.Ok ⟨2, 0, ⟨#[97]⟩, false⟩ := ⟨.inr (.inr (.inl (by refine ⟨rfl, ?_, ?_, ?_⟩ <;> first | rfl | decide))), by decide, by decide⟩
theorem fit0 : FitS smallS row0 := ⟨small_may, ⟨ok0, .inl rfl⟩, ⟨ok1, .inl rfl⟩, trivial⟩
theorem fit_1 : fits smallS.cols row1 := ⟨⟨ok0, .inl rfl⟩, ⟨Sc.ok_null, .inr ⟨rfl, rfl⟩⟩, trivial⟩
theorem enc0 : encL smallS row0 = [10, 1, 1, 97] := by
  unfold encL
  rw [if_pos (tr_yes fit0)]
  decide +kernel
theorem encE0 : encE smallS row0 = 0 := by
  unfold encE
  rw [if_pos (tr_yes fit0)]
theorem dec1 : dec smallS.cols [10, 0] = (row1, 0) := by
  have h := dec_enc smallS.cols row1 [] (mayS_pos small_may) fit_1
  rw [List.append_nil, show enc smallS.cols row1 = [10, 0] by decide +kernel, if_pos rfl] at h
  exact h
theorem decL1 : decL smallS [10, 0] = row1 := by
  unfold decL
  rw [if_pos (tr_yes small_may), dec1]
theorem decE1 : decE smallS [10, 0] = 0 := by
  unfold decE
  rw [if_pos (tr_yes small_may), dec1]
theorem find1 : findF smallS.cols ⟨#[118]⟩ 0 = 1 := by decide +kernel
theorem small_cs (w : World) (t : TypeId) : Wd.Cs (w.alloc (.cells #[.string ⟨#[107]⟩, .int .i64 1, .bool false, .string ⟨#[118]⟩, .int .i64 2, .bool true] t)) (some ⟨w.heap.size, 0, none⟩) 2 2 smallS.cols := by
  have b := Wd.Bx.new w t #[.string ⟨#[107]⟩, .int .i64 1, .bool false, .string ⟨#[118]⟩, .int .i64 2, .bool true]
  refine ⟨rfl, by omega, by unfold maxLen; omega, by simp, fun j hj => ⟨w.heap.size, 0, rfl, by simp, fun i v hv => ?_, ?_⟩⟩
  · rw [Nat.zero_add, b.cell (j * 3 + i)]
    have hi : i < 3 := by have := (List.getElem?_eq_some_iff.1 hv).1; simpa [Wd.colVals] using this
    have hj2 : j < 2 := hj
    match j, hj2, i, hi with
    | 0, _, 0, _ => exact hv
    | 0, _, 1, _ => exact hv
    | 0, _, 2, _ => exact hv
    | 1, _, 0, _ => exact hv
    | 1, _, 1, _ => exact hv
    | 1, _, 2, _ => exact hv
  · have hj2 : j < 2 := hj
    match j, hj2 with
    | 0, _ => exact ⟨by decide, by decide⟩
    | 1, _ => exact ⟨by decide, by decide⟩
theorem row0_vs (w : World) (t : TypeId) : Wd.Vs (w.alloc (.cells #[.int .i64 1, .int .i64 5, .string ⟨#[]⟩, .bool false, .int .i64 2, .int .i64 0, .string ⟨#[97]⟩, .bool false] t)) (some ⟨w.heap.size, 0, none⟩) 2 2 row0 := by
  have b := Wd.Bx.new w t #[.int .i64 1, .int .i64 5, .string ⟨#[]⟩, .bool false, .int .i64 2, .int .i64 0, .string ⟨#[97]⟩, .bool false]
  refine ⟨rfl, by omega, by unfold maxLen; omega, by simp, fun j hj => ⟨w.heap.size, 0, rfl, by simp, fun i v hv => ?_, ?_⟩⟩
  · rw [Nat.zero_add, b.cell (j * 4 + i)]
    have hi : i < 4 := by have := (List.getElem?_eq_some_iff.1 hv).1; simpa [Wd.vals] using this
    have hj2 : j < 2 := hj
    match j, hj2, i, hi with
    | 0, _, 0, _ => exact hv
    | 0, _, 1, _ => exact hv
    | 0, _, 2, _ => exact hv
    | 0, _, 3, _ => exact hv
    | 1, _, 0, _ => exact hv
    | 1, _, 1, _ => exact hv
    | 1, _, 2, _ => exact hv
    | 1, _, 3, _ => exact hv
  · have hj2 : j < 2 := hj
    match j, hj2 with
    | 0, _ => exact v1_of ok0
    | 1, _ => exact v1_of ok1
theorem Small_any (w : World) : Calls Tryd.prog 23 #[] w fun e w' => ∃ A, e = .returned (.agg #[.slice A 2 2, .int .i64 (-1), .int .i64 (-1), .int .i64 (-1), .int .i64 (-1)]) ∧ Wd.Cs w' A 2 2 smallS.cols ∧ Below w.heap.size w w' := by
  go_enter Tryd.func23, Tryd.ntmps23
  go_wp2_with fail
  (try simp only [Exit.inBlock, Exit.then])
  have hc := small_cs (w.alloc (.cells #[.slice (some ⟨w.heap.size + 1, 0, none⟩) 2 2, .int .i64 (-1), .int .i64 (-1), .int .i64 (-1), .int .i64 (-1)] 24)) 48
  rw [World.size_alloc] at hc
  refine bodyPost_ret (v := .agg #[.slice (some ⟨w.heap.size + 1, 0, none⟩) 2 2, .int .i64 (-1), .int .i64 (-1), .int .i64 (-1), .int .i64 (-1)]) ?_ rfl ⟨_, rfl, hc, ?_⟩
  · rw [Vc.res_cell1 rfl]; go_simp
  · repeat' (first | with_reducible exact Below.refl _ _ | with_reducible refine Below.setCell ?_ (by simp <;> omega) _ | with_reducible refine Below.alloc ?_ (by simp <;> omega) _)
set_option maxHeartbeats 4000000 in
theorem awake_any {aM aN aB : Addr} (w : World) (hG : Gl w aM aN aB) : Calls Tryd.prog 8 #[] w fun e w' => e = .returned (.bool true) ∧ Below w.heap.size w w' := by
  have HG := Lib.hid hG
  clear hG
  go_enter Tryd.func8, Tryd.ntmps8
  go_wp2_with fail
  refine (Small_any w).mono ?_
  rintro e w1 ⟨A, rfl, hS1, hB1⟩
  have hb2 := hB1.alloc hB1.size (.cells #[.slice A 2 2, .int .i64 (-1), .int .i64 (-1), .int .i64 (-1), .int .i64 (-1)] 24)
  have s2 : Sb (w1.alloc (.cells #[.slice A 2 2, .int .i64 (-1), .int .i64 (-1), .int .i64 (-1), .int .i64 (-1)] 24)) w1.heap.size A 2 2 (-1) (-1) (-1) (-1) := Wd.Bx.new w1 _ _
  have HS2 := Lib.hid (hS1.below ((Below.refl _ w1).alloc (Nat.le_refl _) (.cells #[.slice A 2 2, .int .i64 (-1), .int .i64 (-1), .int .i64 (-1), .int .i64 (-1)] 24)))
  obtain ⟨p0, p1, p2, p3, p4⟩ := five s2
  clear hS1
  go_wp2_with fail
  have hv3 := row0_vs (w1.alloc (.cells #[.slice A 2 2, .int .i64 (-1), .int .i64 (-1), .int .i64 (-1), .int .i64 (-1)] 24)) 46
  rw [World.size_alloc] at hv3
  have hb3 := (Below.refl _ (w1.alloc (.cells #[.slice A 2 2, .int .i64 (-1), .int .i64 (-1), .int .i64 (-1), .int .i64 (-1)] 24))).alloc (Nat.le_refl _) (.cells #[.int .i64 1, .int .i64 5, .string ⟨#[]⟩, .bool false, .int .i64 2, .int .i64 0, .string ⟨#[97]⟩, .bool false] 46)
  have C1 := Encode_any A 2 2 smallS _ 2 2 row0 _ (HS2.out.below hb3) hv3 (by omega)
  rw [enc0, encE0] at C1
  refine C1.mono ?_
  rintro e w4 ⟨A4, n4, k4, rfl, hS4, hB4⟩
  have hb4 := hb3.trans (hB4.mono hb3.size)
  have hW4 := hb2.trans (hb4.mono hb2.size)
  have s4 := s2.below (Wd.Bx.lt s2) hb4
  have HS4 := Lib.hid (HS2.out.below hb4)
  have HR4 := Lib.hid hS4
  clear p0 p1 p2 p3 p4 hv3 hB4 C1 hS4 hb3 hb4 hb2 s2 HS2
  obtain ⟨p0, p1, p2, p3, p4⟩ := five s4
  go_wp2_with fail
  have hb5 := (Below.refl _ w4).alloc (Nat.le_refl _) (.cells #[.int .u8 10, .int .u8 0] 5)
  have C2 := Decode_any A 2 2 smallS _ 2 2 [10, 0] _ (HS4.out.below hb5) (Wd.Sl.lit w4 .u8 [10, 0] 5 _ 2 rfl rfl (by decide)) (by intro x hx; simp at hx; omega) (HG.out.below (hW4.trans (hb5.mono hW4.size))) (by omega)
  rw [decL1, decE1] at C2
  refine C2.mono ?_
  rintro e w6 ⟨A6, n6, k6, rfl, hV6, hB6⟩
  have hb6 := hb5.trans (hB6.mono hb5.size)
  have hW6 := hW4.trans (hb6.mono hW4.size)
  have s6 := s4.below (Wd.Bx.lt s4) hb6
  have HS6 := Lib.hid (HS4.out.below hb6)
  have HR6 := Lib.hid (HR4.out.below hb6)
  obtain rfl : n6 = 2 := hV6.len
  have hk6 := hV6.cap
  have HV6 := Lib.hid hV6
  clear p0 p1 p2 p3 p4 hV6 hB6 C2 hb5 hb6 s4 HS4 HR4 hW4
  go_wp2_with fail
  refine (Nc.same_yes A4 _ n4 4 k4 4 [10, 1, 1, 97] [10, 1, 1, 97] _ (HR6.out.below ((Below.refl _ _).alloc (Nat.le_refl _) _)) (Wd.Sl.lit w6 .u8 [10, 1, 1, 97] 5 _ 4 rfl rfl (by decide)) rfl).mono ?_
  rintro e w7 ⟨rfl, hB7⟩
  have hb7 : Below w6.heap.size w6 w7 := ((Below.refl _ w6).alloc (Nat.le_refl _) _).trans (hB7.mono (by simp))
  have hW7 := hW6.trans (hb7.mono hW6.size)
  have s7 := s6.below (Wd.Bx.lt s6) hb7
  have HS7 := Lib.hid (HS6.out.below hb7)
  obtain ⟨b, o, rfl, hbB, c0, c1, c2, c3, -⟩ := (HV6.out.below hb7).cells (j := 0) (by decide) rfl
  obtain ⟨b', o', hA, hbB', d0, d1, d2, d3, -⟩ := (HV6.out.below hb7).cells (j := 1) (by decide) rfl
  obtain ⟨rfl, rfl⟩ : b = b' ∧ o = o' := by cases hA; exact ⟨rfl, rfl⟩
  simp only [Nat.zero_mul, Nat.add_zero, Nat.one_mul] at c0 c1 c2 c3 d0 d1 d2 d3
  replace c1 : w7.cell? ⟨b, o + 1, none⟩ = some (.int .i64 5) := c1
  replace d0 : w7.cell? ⟨b, o + 4, none⟩ = some (.int .i64 0) := d0
  replace d1 : w7.cell? ⟨b, o + 4 + 1, none⟩ = some (.int .i64 0) := d1
  replace d2 : w7.cell? ⟨b, o + 4 + 2, none⟩ = some (.string ⟨#[]⟩) := d2
  replace d3 : w7.cell? ⟨b, o + 4 + 3, none⟩ = some (.bool false) := d3
  have heq := fun w => Vc.eqV 0 0 ⟨#[]⟩ false 0 0 ⟨#[]⟩ false w
  have hg : Tryd.prog.eqGuardType Tryd.prog.depth 46 = false := by kernel_rfl
  obtain ⟨p0, p1, p2, p3, p4⟩ := five s7
  clear hA hbB' hB7 hb7 s6 HS6 HR6 HV6 hW6 c0 c2 c3
  go_wp2_with fail
  have C3 := Find_any A 2 2 smallS.cols (-1) (-1) (-1) (-1) ⟨#[118]⟩ w7 HS7.out (by omega)
  rw [find1] at C3
  refine C3.mono ?_
  rintro e w8 ⟨rfl, hB8⟩
  have hW8 := hW7.trans (hB8.mono hW7.size)
  have s8 := s7.below (Wd.Bx.lt s7) hB8
  have C4 := May_any A 2 2 smallS w8 (HS7.out.below hB8) (by omega)
  rw [tr_yes small_may] at C4
  have C4' := Lib.hid C4
  clear p0 p1 p2 p3 p4 d0 d1 d2 d3 c1 heq hg C4 C3 s7 HS7
  obtain ⟨p0, p1, p2, p3, p4⟩ := five s8
  go_wp2_with fail
  refine C4'.out.mono ?_
  rintro e w9 ⟨rfl, hB9⟩
  have hW9 := hW8.trans (hB9.mono hW8.size)
  go_wp2_with fail
  go_ret
  exact ⟨rfl, hW9⟩
end Sx
end Go.Proofs.YtdmgjeipkpbojaaDoor
