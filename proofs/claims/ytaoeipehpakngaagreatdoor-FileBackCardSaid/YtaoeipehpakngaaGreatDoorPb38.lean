/- Package file: Encode. The schema of chapter 7's example may be, one row fits it, and the function that makes it (winnowerlaw07.Small). The example of chapter 12 holds: the function awake answers true. The reference of layer 12: Same. Words on memory: a record as a struct (a row, an offset), a slice and what goes with it. -/
import Derived.Deep.RegionHeld3
import Derived.Deep.DeepCutAuto
import Derived.Lib.Hide
import Derived.Test.YtaoeipehpakngaaGreatDoorPb36
import Derived.Test.YtaoeipehpakngaaGreatDoorPb37
import Derived.Test.YtaoeipehpakngaaGreatDoorPb08
import Derived.Test.YtaoeipehpakngaaGreatDoorPb03
import Derived.Test.YtaoeipehpakngaaGreatDoorPb05
import Derived.Test.YtaoeipehpakngaaGreatDoorPb34
import Derived.Test.YtaoeipehpakngaaGreatDoorPb21
import Derived.Test.YtaoeipehpakngaaGreatDoorPb13
import Derived.Test.YtaoeipehpakngaaGreatDoorPb23
import Derived.Test.YtaoeipehpakngaaGreatDoorPb04
import Derived.Test.YtaoeipehpakngaaGreatDoorPb07
import Derived.Test.YtaoeipehpakngaaGreatDoorPb12
import Derived.Test.YtaoeipehpakngaaGreatDoorPb17
namespace Go.Proofs.YtaoeipehpakngaaGreatDoor
set_option maxRecDepth 20000
open Go.RowKit
namespace Fi
open Se (Seg Sg Gb Lt Ok Bm)
open Sc (Sch tr tr_yes tr_no)
open Sx (five)
open Wd (Cr)
theorem cat_le (l : List (List Int)) (k : Nat) : (Fr.cat (l.take k)).length ≤ (Fr.cat l).length := by
  have h := Fr.cat_app (l.take k) (l.drop k)
  rw [List.take_append_drop] at h
  rw [h, List.length_append]
  omega
theorem boxes (w : World) (A : Option Addr) (n c : Nat) (s : Sch) (OA : Option Addr) (on oc : Nat) (CA : Option Addr) (cn cc : Nat) (x : Seg) :
    Bm w ((w.alloc (.cells #[.slice A n c, .int .i64 s.key, .int .i64 s.cmp, .int .i64 s.del, .int .i64 s.sort] 24)).alloc (.cells #[.int .i64 x.part, .int .i64 x.id, .int .i64 x.st, .int .i64 x.en, .slice OA on oc, .slice CA cn cc] 28)) A n c s OA on oc CA cn cc x := by
  have z1 : (w.alloc (.cells #[.slice A n c, .int .i64 s.key, .int .i64 s.cmp, .int .i64 s.del, .int .i64 s.sort] 24)).heap.size = w.heap.size + 1 := by simp
  have g1 := Gb.new (w.alloc (.cells #[.slice A n c, .int .i64 s.key, .int .i64 s.cmp, .int .i64 s.del, .int .i64 s.sort] 24)) x.part x.id x.st x.en OA on oc CA cn cc
  rw [z1] at g1
  exact ⟨(Wd.Bx.new w _ _).alloc _, g1, ((Below.refl _ _).alloc (Nat.le_refl _) _).alloc (by simp) _⟩
section
variable (A : Option Addr) (n c : Nat) (s : Sch) (OA : Option Addr) (on oc : Nat) (CA : Option Addr) (cn cc : Nat) (os : List Cr) (x : Seg) (w : World) (hS : Wd.Cs w A n c s.cols) (hX : Sg w OA on oc CA cn cc os x) (hlt : Lt os) (hn : n ≤ 1000000) (hcn : cn ≤ 100000) (hon : on ≤ 1000000)
include hS hX hlt hn hcn hon
set_option maxHeartbeats 4000000 in
theorem Encode_no (hok : ¬ Ok s x) :
    Calls Tryz.prog 9 #[.agg #[.slice A n c, .int .i64 s.key, .int .i64 s.cmp, .int .i64 s.del, .int .i64 s.sort], .agg #[.int .i64 x.part, .int .i64 x.id, .int .i64 x.st, .int .i64 x.en, .slice OA on oc, .slice CA cn cc]] w fun e w' => e = .returned (.tuple #[.slice none 0 0, .int .i64 1]) ∧ Below w.heap.size w w' := by
  have h1 := boxes w A n c s OA on oc CA cn cc x
  obtain ⟨w1, hw1⟩ : ∃ w1, w1 = (w.alloc (.cells #[.slice A n c, .int .i64 s.key, .int .i64 s.cmp, .int .i64 s.del, .int .i64 s.sort] 24)).alloc (.cells #[.int .i64 x.part, .int .i64 x.id, .int .i64 x.st, .int .i64 x.en, .slice OA on oc, .slice CA cn cc] 28) := ⟨_, rfl⟩
  rw [← hw1] at h1
  have Cm := Se.may_any A n c s OA on oc CA cn cc os x w1 (hS.below h1.b) (hX.below h1.b) hlt hn (by omega) hon
  rw [tr_no hok] at Cm
  have Cm := Lib.hid Cm
  obtain ⟨c0, c1, c2, c3, c4⟩ := five h1.s
  obtain ⟨d0, d1, d2, d3, d4, d5⟩ := Gb.six h1.x
  have H1 := Lib.hid h1
  have Hw1 := Lib.hid hw1
  clear hw1 h1 hS hX hlt hok
  go_enter Tryz.func9, Tryz.ntmps9
  go_upto_region 1 with fail
  rw [← Hw1.out]
  go_wp2_with fail
  refine Cm.out.mono ?_
  rintro e w2 ⟨rfl, hB2⟩
  have B2 := Lib.hid (H1.out.b.trans (hB2.mono H1.out.b.size))
  clear hB2 Cm c0 c1 c2 c3 c4 d0 d1 d2 d3 d4 d5
  go_wp2_with fail
  go_ret2
  exact ⟨rfl, B2.out⟩
set_option maxRecDepth 100000 in
set_option maxHeartbeats 8000000 in
theorem Encode_yes (hok : Ok s x) (hG : Good x) :
    Calls Tryz.prog 9 #[.agg #[.slice A n c, .int .i64 s.key, .int .i64 s.cmp, .int .i64 s.del, .int .i64 s.sort], .agg #[.int .i64 x.part, .int .i64 x.id, .int .i64 x.st, .int .i64 x.en, .slice OA on oc, .slice CA cn cc]] w (Wd.Out2 w .u8 (fileB x) 0) := by
  obtain ⟨i0, hi, hz0, hz1, hz2⟩ := info_parts Cx.info_y
  have h1 := boxes w A n c s OA on oc CA cn cc x
  obtain ⟨w1, hw1⟩ : ∃ w1, w1 = (w.alloc (.cells #[.slice A n c, .int .i64 s.key, .int .i64 s.cmp, .int .i64 s.del, .int .i64 s.sort] 24)).alloc (.cells #[.int .i64 x.part, .int .i64 x.id, .int .i64 x.st, .int .i64 x.en, .slice OA on oc, .slice CA cn cc] 28) := ⟨_, rfl⟩
  rw [← hw1] at h1
  have Cm := Se.may_any A n c s OA on oc CA cn cc os x w1 (hS.below h1.b) (hX.below h1.b) hlt hn (by omega) hon
  rw [tr_yes hok] at Cm
  have Cm := Lib.hid Cm
  obtain ⟨c0, c1, c2, c3, c4⟩ := five h1.s
  obtain ⟨d0, d1, d2, d3, d4, d5⟩ := Gb.six h1.x
  have H1 := Lib.hid h1
  have Hw1 := Lib.hid hw1
  have HX := Lib.hid hX
  have HG := Lib.hid hG
  have Hlt := Lib.hid hlt
  have Hcn := Lib.hid hX.num
  clear hw1 h1 hS hX hlt hok hG
  go_enter Tryz.func9, Tryz.ntmps9
  go_upto_region 1 with fail
  rw [← Hw1.out]
  go_wp2_with fail
  refine Cm.out.mono ?_
  rintro e w2 ⟨rfl, hB2⟩
  have H2 := Lib.hid (H1.out.below hB2)
  clear hB2 Cm c0 c1 c2 c3 c4 d0 d1 d2 d3 d4 d5
  obtain ⟨d0, d1, d2, d3, d4, d5⟩ := Gb.six H2.out.x
  have Cp := Lib.hid (payloadsOf_any OA on oc CA cn cc os x w2 (HX.out.below H2.out.b) HG.out Hlt.out hcn)
  go_wp2_with fail
  refine Cp.out.mono ?_
  rintro e w5 ⟨PA, pc, rfl, hP5, hB5⟩
  have HP := Lib.hid hP5
  have B5 := Lib.hid (H2.out.b.trans (hB5.mono H2.out.b.size))
  obtain ⟨N, hN⟩ : ∃ N, N = 2 + cn := ⟨_, rfl⟩
  rw [← hN] at HP ⊢
  have HN := Lib.hid hN
  have hN1 : N ≤ 200000 := by omega
  have hpcap := HP.out.cap
  have hpmax := HP.out.max
  unfold maxLen at hpmax
  have Hpl := Lib.hid HP.out.len
  clear hP5 hB5 Cp d0 d1 d2 d3 d4 d5 hN
  go_wp2_with fail
  go_loopw [8, 27] (fun v i wr => ∃ (k : Nat) (bs : List Int), i = .int .i64 k ∧ k ≤ N ∧ Hid (bs = Fr.cat ((pays x).take k)) ∧ wr.ownsRow w5.heap.size 5 1 v bs.length (bs.map (Value.int .u8)) ∧ Below w5.heap.size w5 wr) (fun _ i _ => N - (intOf i).toNat)
  case atStart => exact ⟨0, [], rfl, Nat.zero_le _, Lib.hid rfl, World.ownsRow_nil _ _ _ _, Below.refl _ _⟩
  case round =>
    obtain ⟨k, bs, rfl, hk, hbs, hown, hB⟩ := hrel
    by_cases hlt : k < N
    · have hkI : (k : Int) < (N : Int) := by omega
      have hkl : k < (pays x).length := by rw [← Hpl.out]; exact hlt
      obtain ⟨b, o, A1, n1, c1, rfl, hlt1, cc1, hS1⟩ := (HP.out.below hB).at_ k hkl
      have hmem : (pays x).getD k [] ∈ pays x := by
        rw [List.getD_eq_getElem?_getD, List.getElem?_eq_getElem hkl]
        exact List.getElem_mem _
      obtain ⟨hp3, hpB⟩ := HG.out.fine _ hmem
      have hn1 : n1 ≤ 65536 := by rw [hS1.len]; exact hp3
      have Cs := Lib.hid (Fc.Seal_any A1 n1 c1 _ wr hS1 hpB hn1)
      have hnx := Fr.cat_take (pays x) k hkl
      have hl1 := cat_le (pays x) k
      have hl2 := cat_le (pays x) (k + 1)
      have hl3 : (Fr.cat (pays x)).length ≤ 930000 := HG.out.len
      rw [hnx, List.length_append] at hl2
      rw [← hbs.out] at hl1 hl2 hnx
      obtain ⟨fr, hfr⟩ : ∃ fr, fr = Fr.frame ((pays x).getD k []) := ⟨_, rfl⟩
      rw [← hfr] at Cs hnx hl2
      have Hnx := Lib.hid hnx
      have hsz := hB.size
      obtain ⟨L1, hL1⟩ : ∃ L, L = bs.length := ⟨_, rfl⟩
      obtain ⟨L2, hL2⟩ : ∃ L, L = fr.length := ⟨_, rfl⟩
      have hL : L1 + L2 ≤ 930000 := by omega
      have HL := Lib.hid (And.intro hL1 hL2)
      obtain ⟨wo, rfl⟩ : ∃ wo : World, wo = wr := ⟨_, rfl⟩
      clear hnx hl1 hl2 hl3 hfr hS1 hpB hp3 hmem hkl hL1 hL2
      go_wp2_with fail
      refine Cs.out.mono ?_
      rintro e w6 ⟨A3, n3, c3, rfl, hS3, hb3⟩
      have hown1 := Wd.own_below hown hb3
      have Hn3 := Lib.hid hS3.len
      have hz1' : w5.heap.size ≤ w6.heap.size := Nat.le_trans hsz hb3.size
      clear hown Cs
      go_wp2_with (at_builtin; refine Wd.wpList_app _ rfl (.tmp 39) (.tmp 40) 32 rfl w5.heap.size 5 i0 _ .u8 1 Tryz.underlying32 hi hz0 hz1 hz2 rfl _ bs rfl hown1 w6.heap.size A3 n3 c3 fr rfl Hn3.out hS3.nil hS3.rd (by rw [← HL.out.1, ← HL.out.2]; omega) (by rw [← HL.out.1, ← HL.out.2]; unfold maxLen; omega) hz1' ?_; intro v' w7 hown2 hg2)
      have hB2 : Below w5.heap.size w5 w7 := (hB.trans (hb3.mono hsz)).grown hg2 hz1' (fun g hg => (hown1.lt g hg).1)
      go_roundw
      case rel => exact ⟨k + 1, _, by go_num, by omega, Lib.hid Hnx.out.symm, hown2, hB2⟩
      case measure => simp [intOf]; omega
    · have hkI : ¬ (k : Int) < (N : Int) := by omega
      go_wp2_with fail
      go_ret2
      have e := hbs.out
      rw [List.take_of_length_le (by have := Hpl.out; omega)] at e
      rw [e] at hown
      obtain ⟨A9, n9, c9, rfl, h9⟩ := Wd.Sl.of_own hown
      exact ⟨A9, n9, c9, rfl, h9, B5.out.trans (hB.mono B5.out.size)⟩
end
end Fi
namespace Sx
open Sc (Col Sch tr tr_yes tr_no MayS FitS fits fit1 nameOk MayS findF)
open Va (Vl null)
def smallS : Sch := ⟨[⟨⟨#[107]⟩, 1, false⟩, ⟨⟨#[118]⟩, 2, true⟩], -1, -1, -1, -1⟩
theorem small_may : MayS smallS := by
  refine ⟨by decide, by decide, by decide, by decide, ?_, by decide +kernel, .inl ⟨rfl, rfl, rfl⟩⟩
  intro c hc
  have h : c = ⟨⟨#[107]⟩, 1, false⟩ ∨ c = ⟨⟨#[118]⟩, 2, true⟩ := by simpa [smallS] using hc
  rcases h with rfl | rfl
  · exact ⟨⟨by decide, by decide, fun x hx => by
      obtain rfl : x = 107 := by simpa [show Va.byts ⟨#[107]⟩ = [107] by decide +kernel] using hx
      omega⟩, by decide, by decide⟩
  · exact ⟨⟨by decide, by decide, fun x hx => by
      obtain rfl : x = 118 := by simpa [show Va.byts ⟨#[118]⟩ = [118] by decide +kernel] using hx
      omega⟩, by decide, by decide⟩
theorem small_cs (w : World) (t : TypeId) : Wd.Cs (w.alloc (.cells #[.string ⟨#[107]⟩, .int .i64 1, .bool false, .string ⟨#[118]⟩, .int .i64 2, .bool true] t)) (some ⟨w.heap.size, 0, none⟩) 2 2 smallS.cols := by
  have b := Wd.Bx.new w t #[.string ⟨#[107]⟩, .int .i64 1, .bool false, .string ⟨#[118]⟩, .int .i64 2, .bool true]
  refine ⟨rfl, by omega, by unfold maxLen; omega, by simp, fun j hj => ⟨w.heap.size, 0, rfl, by simp, fun i v hv => ?_, ?_⟩⟩
  · rw [Nat.zero_add, b.cell (j * 3 + i)]
    have hi : i < 3 := by have := (List.getElem?_eq_some_iff.1 hv).1; simpa [Wd.colVals] using this
    have hj2 : j < 2 := hj
    match j, hj2, i, hi with
    | 0, _, 0, _ => exact hv
    | 0, _, 1, _ => exact hv
    | 0, _, 2, _ => exact hv
    | 1, _, 0, _ => exact hv
    | 1, _, 1, _ => exact hv
    | 1, _, 2, _ => exact hv
  · have hj2 : j < 2 := hj
    match j, hj2 with
    | 0, _ => exact ⟨by decide, by decide⟩
    | 1, _ => exact ⟨by decide, by decide⟩
theorem Small_any (w : World) : Calls Tryz.prog 15 #[] w fun e w' => ∃ A, e = .returned (.agg #[.slice A 2 2, .int .i64 (-1), .int .i64 (-1), .int .i64 (-1), .int .i64 (-1)]) ∧ Wd.Cs w' A 2 2 smallS.cols ∧ Below w.heap.size w w' := by
  go_enter Tryz.func15, Tryz.ntmps15
  go_wp2_with fail
  (try simp only [Exit.inBlock, Exit.then])
  have hc := small_cs (w.alloc (.cells #[.slice (some ⟨w.heap.size + 1, 0, none⟩) 2 2, .int .i64 (-1), .int .i64 (-1), .int .i64 (-1), .int .i64 (-1)] 24)) 54
  rw [World.size_alloc] at hc
  refine bodyPost_ret (v := .agg #[.slice (some ⟨w.heap.size + 1, 0, none⟩) 2 2, .int .i64 (-1), .int .i64 (-1), .int .i64 (-1), .int .i64 (-1)]) ?_ rfl ⟨_, rfl, hc, ?_⟩
  · rw [Vc.res_cell1 rfl]; go_simp
  · repeat' (first | with_reducible exact Below.refl _ _ | with_reducible refine Below.setCell ?_ (by simp <;> omega) _ | with_reducible refine Below.alloc ?_ (by simp <;> omega) _)
end Sx
end Go.Proofs.YtaoeipehpakngaaGreatDoor
namespace Go.Proofs.YtaoeipehpakngaaGreatDoor
set_option maxRecDepth 20000
open Go.RowKit Go.Maps
namespace Se
open Va (Vl May null ord)
open Sc (Sch FitS MayS fits fits_get tr tr_yes tr_no tr_iff tr_congr)
open Sx (smallS small_may Sb five)
open Wd (Cr)
open Ssm (ns)
open Co (build)
def exR (n : Int) : List Vl := [⟨1, n, ⟨#[]⟩, false⟩, null]
theorem ex_v1 (n : Int) (h0 : -9223372036854775808 ≤ n) (h1 : n ≤ 9223372036854775807) : ∀ j, j < (exR n).length → Wd.V1 ((exR n).getD j default) := fun j hj => by
  have hj2 : j < 2 := hj
  match j, hj2 with
  | 0, _ => exact Sx.v1_of ⟨.inr (.inl ⟨rfl, rfl, rfl⟩), h0, h1⟩
  | 1, _ => exact Sx.v1_of Sc.ok_null
end Se
end Go.Proofs.YtaoeipehpakngaaGreatDoor
namespace Go.Proofs.YtaoeipehpakngaaGreatDoor
set_option maxRecDepth 20000
open Go.RowKit
namespace Se
open Va (Vl)
open Sc (Sch MayS FitS tr tr_yes tr_no tr_iff tr_congr)
open Sx (Sb five)
open Wd (Cr)
theorem cols_get {os : List Cr} {k : Nat} (h : k < os.length) : (Wd.cols os).getD k Co.none_ = (os.getD k default).C := by
  unfold Wd.cols
  rw [List.getD_eq_getElem?_getD, List.getElem?_map, List.getElem?_eq_getElem h, List.getD_eq_getElem?_getD, List.getElem?_eq_getElem h]
  rfl
theorem cols_ext {os ps : List Cr} (hl : os.length = ps.length) (h : ∀ j, j < os.length → (os.getD j default).C = (ps.getD j default).C) : Wd.cols os = Wd.cols ps := by
  apply List.ext_getElem
  · rw [Wd.cols_len, Wd.cols_len, hl]
  · intro i h1 h2
    rw [Wd.cols_len] at h1 h2
    have a := cols_get h1
    have b := cols_get h2
    rw [List.getD_eq_getElem?_getD, List.getElem?_eq_getElem (by rw [Wd.cols_len]; exact h1)] at a
    rw [List.getD_eq_getElem?_getD, List.getElem?_eq_getElem (by rw [Wd.cols_len]; exact h2)] at b
    exact a.trans ((h i h1).trans b.symm)
set_option maxHeartbeats 8000000 in
theorem refSame_any (OA : Option Addr) (on oc : Nat) (CA : Option Addr) (cn cc : Nat) (os : List Cr) (x : Seg) (PA : Option Addr) (pn pc : Nat) (DA : Option Addr) (dn dc : Nat) (ps : List Cr) (y : Seg) (w : World) (hX : Sg w OA on oc CA cn cc os x) (hY : Sg w PA pn pc DA dn dc ps y) :
    Calls Tryz.prog 13 #[.agg #[.int .i64 x.part, .int .i64 x.id, .int .i64 x.st, .int .i64 x.en, .slice OA on oc, .slice CA cn cc], .agg #[.int .i64 y.part, .int .i64 y.id, .int .i64 y.st, .int .i64 y.en, .slice PA pn pc, .slice DA dn dc]] w fun e w' => e = .returned (.bool (tr (x = y))) ∧ Below w.heap.size w w' := by
  obtain ⟨w1, hw1⟩ : ∃ w1, w1 = (w.alloc (.cells #[.int .i64 x.part, .int .i64 x.id, .int .i64 x.st, .int .i64 x.en, .slice OA on oc, .slice CA cn cc] 28)).alloc (.cells #[.int .i64 y.part, .int .i64 y.id, .int .i64 y.st, .int .i64 y.en, .slice PA pn pc, .slice DA dn dc] 28) := ⟨_, rfl⟩
  have z1 : (w.alloc (.cells #[.int .i64 x.part, .int .i64 x.id, .int .i64 x.st, .int .i64 x.en, .slice OA on oc, .slice CA cn cc] 28)).heap.size = w.heap.size + 1 := by simp
  have x1 : Gb w1 w.heap.size x.part x.id x.st x.en OA on oc CA cn cc := by rw [hw1]; exact (Gb.new w x.part x.id x.st x.en OA on oc CA cn cc).alloc _
  have y1 : Gb w1 (w.heap.size + 1) y.part y.id y.st y.en PA pn pc DA dn dc := by
    have := Gb.new (w.alloc (.cells #[.int .i64 x.part, .int .i64 x.id, .int .i64 x.st, .int .i64 x.en, .slice OA on oc, .slice CA cn cc] 28)) y.part y.id y.st y.en PA pn pc DA dn dc
    rw [z1] at this
    rw [hw1]
    exact this
  have hb1 : Below w.heap.size w w1 := by rw [hw1]; exact ((Below.refl _ _).alloc (Nat.le_refl _) _).alloc (by simp) _
  obtain ⟨d0, d1, d2, d3, d4, d5⟩ := Gb.six x1
  obtain ⟨e0, e1, e2, e3, e4, e5⟩ := Gb.six y1
  have HX := Lib.hid hX
  have HY := Lib.hid hY
  have X1 := Lib.hid x1
  have Y1 := Lib.hid y1
  have Hb1 := Lib.hid hb1
  have Hw1 := Lib.hid hw1
  have Hcn := Lib.hid hX.cols.len
  have Hdn := Lib.hid hY.cols.len
  have Ci := Lib.hid ((Nc.ints_any OA PA on pn oc pc x.offs y.offs w1 (hX.below hb1).offs (hY.below hb1).offs).mono (R' := fun e w' => e = .returned (.bool (decide (x.offs = y.offs))) ∧ Below w1.heap.size w1 w') fun e w' h => ⟨h.1, by obtain ⟨q, rfl⟩ := h.2; exact Wd.below_drewN (Below.refl _ _) q⟩)
  obtain ⟨r, hr⟩ : ∃ r, r = tr (x = y) := ⟨_, rfl⟩
  rw [← hr]
  have Hno := Lib.hid (fun (h : ¬ x = y) => (by rw [hr]; exact tr_no h : r = false))
  have Hyes := Lib.hid (fun (h : x = y) => (by rw [hr]; exact tr_yes h : r = true))
  clear hr hX hY x1 y1 hb1 hw1 z1
  go_enter Tryz.func13, Tryz.ntmps13
  go_upto_region 1 with fail
  rw [← Hw1.out]
  by_cases h0 : x.offs = y.offs
  case neg =>
    have t1 := Lib.hid (decide_eq_false h0)
    have q := Lib.hid (Hno.out fun z => h0 (by rw [z]))
    clear h0
    go_wp2_with fail
    refine Ci.out.mono ?_
    rintro e w2 ⟨rfl, hB2⟩
    rw [t1.out]
    have H2 := Lib.hid (Hb1.out.trans (hB2.mono Hb1.out.size))
    clear hB2 Ci d0 d1 d2 d3 d4 d5 e0 e1 e2 e3 e4 e5
    go_wp2_with fail
    go_ret
    exact ⟨by rw [q.out]; rfl, H2.out⟩
  have t1 := Lib.hid (decide_eq_true h0)
  have P0 := Lib.hid h0
  clear h0
  go_wp2_with fail
  refine Ci.out.mono ?_
  rintro e w2 ⟨rfl, hB2⟩
  rw [t1.out]
  have H2 := Lib.hid (Hb1.out.trans (hB2.mono Hb1.out.size))
  have X2 := Lib.hid (X1.out.below X1.out.lt hB2)
  have Y2 := Lib.hid (Y1.out.below Y1.out.lt hB2)
  clear hB2 Ci d0 d1 d2 d3 d4 d5 e0 e1 e2 e3 e4 e5
  obtain ⟨d0, d1, d2, d3, d4, d5⟩ := Gb.six X2.out
  obtain ⟨e0, e1, e2, e3, e4, e5⟩ := Gb.six Y2.out
  by_cases h1 : x.part = y.part
  case neg =>
    have q1 : (x.part != y.part) = true := by simpa using h1
    have q := Lib.hid (Hno.out fun z => h1 (by rw [z]))
    go_wp2_with fail
    go_ret
    exact ⟨by rw [q.out]; rfl, H2.out⟩
  have q1 : (x.part != y.part) = false := by simpa using h1
  have P1 := Lib.hid h1
  clear h1
  by_cases h2 : x.id = y.id
  case neg =>
    have q2 : (x.id != y.id) = true := by simpa using h2
    have q := Lib.hid (Hno.out fun z => h2 (by rw [z]))
    go_wp2_with fail
    go_ret
    exact ⟨by rw [q.out]; rfl, H2.out⟩
  have q2 : (x.id != y.id) = false := by simpa using h2
  have P2 := Lib.hid h2
  clear h2
  by_cases h3 : x.st = y.st
  case neg =>
    have q3 : (x.st != y.st) = true := by simpa using h3
    have q := Lib.hid (Hno.out fun z => h3 (by rw [z]))
    go_wp2_with fail
    go_ret
    exact ⟨by rw [q.out]; rfl, H2.out⟩
  have q3 : (x.st != y.st) = false := by simpa using h3
  have P3 := Lib.hid h3
  clear h3
  by_cases h4 : x.en = y.en
  case neg =>
    have q4 : (x.en != y.en) = true := by simpa using h4
    have q := Lib.hid (Hno.out fun z => h4 (by rw [z]))
    go_wp2_with fail
    go_ret
    exact ⟨by rw [q.out]; rfl, H2.out⟩
  have q4 : (x.en != y.en) = false := by simpa using h4
  have P4 := Lib.hid h4
  clear h4
  by_cases h5 : cn = dn
  case neg =>
    have q5 : ((cn : Int) != (dn : Int)) = true := by simp; omega
    have q := Lib.hid (Hno.out fun z => h5 (by
      have := congrArg (fun g => g.cols.length) z
      simp only [HX.out.eq, HY.out.eq, Wd.cols_len] at this
      rw [Hcn.out, Hdn.out, this]))
    clear h5
    go_wp2_with fail
    go_ret
    exact ⟨by rw [q.out]; rfl, H2.out⟩
  subst h5
  have q5 : ((cn : Int) != (cn : Int)) = false := by simp
  go_wp2_with fail
  clear q1 q2 q3 q4 q5 d0 d1 d2 d3 d4 d5 e0 e1 e2 e3 e4 e5
  go_loopw [6] (fun i wr => ∃ k : Nat, i = .int .i64 k ∧ k ≤ cn ∧ Hid ((∀ j, j < k → (os.getD j default).C = (ps.getD j default).C) ∧ Below w2.heap.size w2 wr)) (fun i _ => cn - (intOf i).toNat)
  case atStart => exact ⟨0, rfl, Nat.zero_le _, Lib.hid ⟨fun j hj => by omega, Below.refl _ _⟩⟩
  case round =>
    obtain ⟨k, rfl, hk, hI⟩ := hrel
    have d5 := (Gb.six (X2.out.below X2.out.lt hI.out.2)).2.2.2.2.2
    have e5 := (Gb.six (Y2.out.below Y2.out.lt hI.out.2)).2.2.2.2.2
    by_cases hltk : k < cn
    · have hkI : (k : Int) < (cn : Int) := by omega
      have hbw : Below w.heap.size w wr := H2.out.trans (hI.out.2.mono H2.out.size)
      have hko : k < os.length := by rw [← Hcn.out]; exact hltk
      have hkp : k < ps.length := by rw [← Hdn.out]; exact hltk
      obtain ⟨b, f, hA, _, c0, c1, c2, hC⟩ := (HX.out.cols.below hbw).cells hko rfl
      obtain ⟨b', f', hA', _, u0, u1, u2, hD⟩ := (HY.out.cols.below hbw).cells hkp rfl
      have hcap := HX.out.cols.cap
      have hmax := HX.out.cols.max
      have hcap' := HY.out.cols.cap
      have hmax' := HY.out.cols.max
      unfold maxLen at hmax hmax'
      subst hA
      subst hA'
      have hbad := fun (h : ¬ (os.getD k default).C = (ps.getD k default).C) => Hno.out fun z => h (by
          rw [← cols_get hko, ← cols_get hkp, ← HX.out.eq, ← HY.out.eq, z])
      obtain ⟨o, ho⟩ : ∃ o, o = os.getD k default := ⟨_, rfl⟩
      obtain ⟨p, hp⟩ : ∃ p, p = ps.getD k default := ⟨_, rfl⟩
      rw [← ho] at c0 c1 c2 hC hbad
      rw [← hp] at u0 u1 u2 hD hbad
      have Cs := Lib.hid (fun W (hb : Below wr.heap.size wr W) => Cx.sameC_any o.A o.n o.c o.B o.m o.d o.C p.A p.n p.c p.B p.m p.d p.C W (hC.below hb) (hD.below hb))
      have Ho := Lib.hid ho
      have Hp := Lib.hid hp
      have Hbad := Lib.hid hbad
      have bk : ∀ {W : World} {a : Addr} {v : Value}, Below wr.heap.size wr W → wr.cell? a = some v → W.cell? a = some v := fun {W a v} hb hc => (hb.cell (World.block_lt_of_cell? wr a hc)).trans hc
      have ZZ := Lib.hid (fun (W : World) (hb : Below wr.heap.size wr W) => (show W.cell? ⟨w.heap.size, 5, none⟩ = some (.slice (some ⟨b, f, none⟩) cn cc) ∧ W.cell? ⟨w.heap.size + 1, 5, none⟩ = some (.slice (some ⟨b', f', none⟩) cn dc) ∧ W.cell? ⟨b, f + k * 3, none⟩ = some (.int .i64 o.C.n) ∧ W.cell? ⟨b, f + k * 3 + 1, none⟩ = some (.slice o.A o.n o.c) ∧ W.cell? ⟨b, f + k * 3 + 2, none⟩ = some (.slice o.B o.m o.d) ∧ W.cell? ⟨b', f' + k * 3, none⟩ = some (.int .i64 p.C.n) ∧ W.cell? ⟨b', f' + k * 3 + 1, none⟩ = some (.slice p.A p.n p.c) ∧ W.cell? ⟨b', f' + k * 3 + 2, none⟩ = some (.slice p.B p.m p.d) from
        ⟨bk hb d5, bk hb e5, bk hb c0, bk hb c1, bk hb c2, bk hb u0, bk hb u1, bk hb u2⟩))
      obtain ⟨fv, hfv⟩ : ∃ fv, fv = tr (o.C = p.C) := ⟨_, rfl⟩
      rw [← hfv] at Cs
      have Hfv := Lib.hid hfv
      have HI := Lib.hid hI.out
      clear hbad ho hp hko hkp hC hD hbw bk hfv hI e5 c0 c1 c2 u0 u1 u2
      go_upto_region 7 with fail
      go_cut [7] (fun v wz => v = .bool fv ∧ Below wr.heap.size wr wz)
      case first =>
        have hb : Below wr.heap.size wr wr.drew := (Below.refl _ _).drew
        have z10 := ZZ.out wr.drew hb
        go_region_held3 (fun W => W.cell? ⟨w.heap.size, 5, none⟩ = some (.slice (some ⟨b, f, none⟩) cn cc) ∧ W.cell? ⟨w.heap.size + 1, 5, none⟩ = some (.slice (some ⟨b', f', none⟩) cn dc) ∧ W.cell? ⟨b, f + k * 3, none⟩ = some (.int .i64 o.C.n) ∧ W.cell? ⟨b, f + k * 3 + 1, none⟩ = some (.slice o.A o.n o.c) ∧ W.cell? ⟨b, f + k * 3 + 2, none⟩ = some (.slice o.B o.m o.d) ∧ W.cell? ⟨b', f' + k * 3, none⟩ = some (.int .i64 p.C.n) ∧ W.cell? ⟨b', f' + k * 3 + 1, none⟩ = some (.slice p.A p.n p.c) ∧ W.cell? ⟨b', f' + k * 3 + 2, none⟩ = some (.slice p.B p.m p.d)) (with_reducible first | exact z10) (first
          | (go_at_call 31; (with_reducible refine (Cs.out _ hb).mono ?_); rintro e w5 ⟨rfl, hB5⟩; have hb := hb.trans (hB5.mono hb.size); have z10 := ZZ.out _ hb))
        all_goals (
          go_wp2_with fail
          go_meet
          exact ⟨rfl, hb⟩)
      case rest =>
        obtain ⟨rfl, hbc⟩ := hcut
        have Hb5 := Lib.hid (HI.out.2.trans (hbc.mono HI.out.2.size))
        clear hbc ZZ Cs
        by_cases hv : o.C = p.C
        · obtain rfl : fv = true := by rw [Hfv.out]; exact tr_yes hv
          have I6 := Lib.hid (show (∀ j, j < k + 1 → (os.getD j default).C = (ps.getD j default).C) ∧ Below w2.heap.size w2 wc from ⟨fun j h1 => by
            by_cases z : j = k
            · rw [z, ← Ho.out, ← Hp.out]; exact hv
            · exact HI.out.1 j (by omega), Hb5.out⟩)
          clear HI hv
          go_wp2_with fail
          go_roundw
          case rel => exact ⟨k + 1, by go_num, by omega, I6⟩
          case measure => simp [intOf]; omega
        · obtain rfl : fv = false := by rw [Hfv.out]; exact tr_no hv
          have t2 := Lib.hid (Hbad.out hv)
          clear HI hv
          go_wp2_with fail
          go_ret
          exact ⟨by rw [t2.out]; rfl, H2.out.trans (Hb5.out.mono H2.out.size)⟩
    · have hkI : ¬ (k : Int) < (cn : Int) := by omega
      have t6 := Lib.hid (Hyes.out (Seg.ext' P1.out P2.out P3.out P4.out P0.out (by
        rw [HX.out.eq, HY.out.eq]
        exact cols_ext (by rw [← Hcn.out, ← Hdn.out]) fun j hj => hI.out.1 j (by have := Hcn.out; omega))))
      have H3 := Lib.hid (H2.out.trans (hI.out.2.mono H2.out.size))
      clear hI
      go_wp2_with fail
      go_ret
      exact ⟨by rw [t6.out]; rfl, H3.out⟩
end Se
end Go.Proofs.YtaoeipehpakngaaGreatDoor
namespace Go.Proofs.YtaoeipehpakngaaGreatDoor
set_option maxRecDepth 20000
open Go.RowKit Go.ChangeShapes Go.WideShapes
namespace Wd
open Va (Vl)
structure Rcd where
  rA : Option Addr
  rn : Nat
  rc : Nat
  row : List Vl
  off : Int
instance : Inhabited Rcd := ⟨⟨none, 0, 0, [], 0⟩⟩
section
variable {w w' : World} {A : Option Addr} {n c : Nat} {os : List Rcd} {o : Rcd}
end
section
variable {H : Type} {enc : TypeId × Value → H} {P : Program} {W : World} {r : Reach} {base0 base : Nat} {spare : Nat → Bool} {held : Bool}
end
end Wd
end Go.Proofs.YtaoeipehpakngaaGreatDoor
namespace Go.Proofs.YtaoeipehpakngaaGreatDoor
set_option maxRecDepth 20000
open Go.RowKit
namespace Se
open Va (Vl)
open Sc (Sch tr tr_yes tr_no)
open Wd (Rcd Cr)
open Ssm (ns)
theorem outBd {w w' : World} {y : Seg} {O : List Nat} {er : Int} {e : Ending} (h : OutBd w (y, O, er) e w') :
    ∃ OA on oc CA cn cc os QA qn qc, e = .returned (.tuple #[.agg #[.int .i64 y.part, .int .i64 y.id, .int .i64 y.st, .int .i64 y.en, .slice OA on oc, .slice CA cn cc], .slice QA qn qc, .int .i64 er]) ∧
      Sg w' OA on oc CA cn cc os y ∧ Wd.Sl w' .i64 QA qn qc (ns O) ∧ Below w.heap.size w w' := h
section
variable (A : Option Addr) (n c : Nat) (s : Sch) (OA : Option Addr) (on oc : Nat) (CA : Option Addr) (cn cc : Nat) (xs : List Cr) (x : Seg) (R : Option Addr) (m d : Nat) (l : List (List Vl)) (Q : Option Addr) (q qc : Nat) (offs : List Int) (w : World)
end
section
variable {YA : Option Addr} {m yc : Nat} {DA : Option Addr} {dn dc : Nat} {ys : List Cr} {s : Sch} {x : Seg} {l : List (List Vl)} {offs : List Int} {w : World}
end
end Se
end Go.Proofs.YtaoeipehpakngaaGreatDoor
