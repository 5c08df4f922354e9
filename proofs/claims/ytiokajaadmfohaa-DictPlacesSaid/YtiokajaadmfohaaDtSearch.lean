/- What Search of package dict does. -/
import Derived.Test.YtiokajaadmfohaaDtRises
import Derived.Test.YtiokajaadmfohaaDtPlace
import Derived.Test.YtiokajaadmfohaaDcLawA
namespace Go.Proofs.Ytiokajaadmfohaa
set_option maxRecDepth 20000
open Go.RowKit
namespace Dt
open Va (Vl May ord null)
open Vc (may_any mayB mayB_iff)
open Sc (tr tr_yes tr_no tr_iff)
open Dc Dx
set_option maxHeartbeats 2000000 in
theorem search_any (R : Option Addr) (m c : Nat) (vs : List Vl) (k i : Int) (s : ByteArray) (b : Bool) (w : World) (hV : Wd.Vs w R m c vs) :
    Calls Try.prog 22 #[.slice R m c, .agg #[.int .i64 k, .int .i64 i, .string s, .bool b]] w fun e w' => e = .returned (.tuple #[.int .i64 (schN vs ⟨k, i, s, b⟩), .bool (schB vs ⟨k, i, s, b⟩)]) ∧ Below w.heap.size w w' := by
  have hb0 := (Below.refl w.heap.size w).alloc (Nat.le_refl _) (.cells #[.int .i64 k, .int .i64 i, .string s, .bool b] 24)
  have x0 : Vc.Vb (w.alloc (.cells #[.int .i64 k, .int .i64 i, .string s, .bool b] 24)) w.heap.size k i s b := Wd.Bx.new w _ _
  have HV := Lib.hid (hV.below hb0)
  have Cr := Lib.hid (rises_any R m c vs _ HV.out)
  have Cm := Lib.hid fun w => may_any k i s b w
  have hm : mayB k i s b = tr (May ⟨k, i, s, b⟩) := by rw [Bool.eq_iff_iff, mayB_iff, tr_iff]
  rw [hm] at Cm
  have Hx0 := Lib.hid x0
  obtain ⟨N, hN⟩ : ∃ N, N = schN vs ⟨k, i, s, b⟩ := ⟨_, rfl⟩
  obtain ⟨B, hB⟩ : ∃ B, B = schB vs ⟨k, i, s, b⟩ := ⟨_, rfl⟩
  rw [← hN, ← hB]
  have HN := Lib.hid hN
  have HB := Lib.hid hB
  clear hN hB hV x0 hm
  by_cases hR : Ris vs
  case neg =>
    rw [tr_no hR] at Cr
    have eN := Lib.hid (HN.out.trans (by unfold schN; rw [if_neg]; rw [tr_iff]; exact fun h => hR h.2))
    have eB := Lib.hid (HB.out.trans (tr_no fun h => hR h.2.1))
    clear hR
    go_enter Try.func22, Try.ntmps22
    obtain ⟨⟨y0, y1, y2, y3⟩, -⟩ := Vc.four Hx0.out
    go_wp2_with fail
    refine Cr.out.mono ?_
    rintro e w1 ⟨rfl, hB1⟩
    have hb1 := hb0.trans (hB1.mono hb0.size)
    go_wp2_with fail
    go_ret2
    exact ⟨by rw [eN.out, eB.out]; rfl, hb1⟩
  rw [tr_yes hR] at Cr
  by_cases hM : May ⟨k, i, s, b⟩
  case neg =>
    rw [tr_no hM] at Cm
    have eN := Lib.hid (HN.out.trans (by unfold schN; rw [if_neg]; rw [tr_iff]; exact fun h => hM h.1))
    have eB := Lib.hid (HB.out.trans (tr_no fun h => hM h.1))
    clear hR hM
    go_enter Try.func22, Try.ntmps22
    obtain ⟨⟨y0, y1, y2, y3⟩, -⟩ := Vc.four Hx0.out
    go_wp2_with fail
    generalize w.alloc (.cells #[.int .i64 k, .int .i64 i, .string s, .bool b] 24) = wa at *
    refine Cr.out.mono ?_
    rintro e w1 ⟨rfl, hB1⟩
    have hb1 := hb0.trans (hB1.mono hb0.size)
    have Hx1 := Lib.hid (Hx0.out.below (Wd.Bx.lt Hx0.out) hB1)
    clear y0 y1 y2 y3 Cr HV Hx0 hB1 hb0
    obtain ⟨⟨y0, y1, y2, y3⟩, -⟩ := Vc.four Hx1.out
    go_wp2_with fail
    refine (Cm.out _).mono ?_
    rintro e w2 ⟨rfl, hB2⟩
    have hb2 := hb1.trans (hB2.mono hb1.size)
    go_wp2_with fail
    go_ret2
    exact ⟨by rw [eN.out, eB.out]; rfl, hb2⟩
  rw [tr_yes hM] at Cm
  have Cp := Lib.hid fun w (hV : Wd.Vs w R m c vs) => place_any R m c vs k i s b w hV hR hM
  have eN := Lib.hid (HN.out.trans (by unfold schN; rw [if_pos]; rw [tr_iff]; exact ⟨hM, hR⟩))
  have eB := Lib.hid (HB.out.trans (show schB vs ⟨k, i, s, b⟩ = decide (⟨k, i, s, b⟩ ∈ vs) by unfold schB; rw [Bool.eq_iff_iff, tr_iff, decide_eq_true_iff]; exact ⟨fun h => h.2.2, fun h => ⟨hM, hR, h⟩⟩))
  rw [← eN.out, ← eB.out] at Cp
  clear hR hM
  go_enter Try.func22, Try.ntmps22
  obtain ⟨⟨y0, y1, y2, y3⟩, -⟩ := Vc.four Hx0.out
  go_wp2_with fail
  generalize w.alloc (.cells #[.int .i64 k, .int .i64 i, .string s, .bool b] 24) = wa at *
  refine Cr.out.mono ?_
  rintro e w1 ⟨rfl, hB1⟩
  have hb1 := hb0.trans (hB1.mono hb0.size)
  have Hx1 := Lib.hid (Hx0.out.below (Wd.Bx.lt Hx0.out) hB1)
  have HV1 := Lib.hid (HV.out.below hB1)
  clear y0 y1 y2 y3 Cr HV Hx0 hB1 hb0
  obtain ⟨⟨y0, y1, y2, y3⟩, -⟩ := Vc.four Hx1.out
  go_wp2_with fail
  refine (Cm.out _).mono ?_
  rintro e w2 ⟨rfl, hB2⟩
  have hb2 := hb1.trans (hB2.mono hb1.size)
  have Hx2 := Lib.hid (Hx1.out.below (Wd.Bx.lt Hx1.out) hB2)
  have HV2 := Lib.hid (HV1.out.below hB2)
  clear y0 y1 y2 y3 HV1 Hx1 hB2
  obtain ⟨⟨y0, y1, y2, y3⟩, -⟩ := Vc.four Hx2.out
  go_wp2_with fail
  refine (Cp.out _ HV2.out).mono ?_
  rintro e w3 ⟨rfl, hB3⟩
  have hb3 := hb2.trans (hB3.mono hb2.size)
  go_wp2_with fail
  go_ret2
  exact ⟨rfl, hb3⟩
/-- Rises and Search, as the statements ask. -/
theorem ifcS : IfcS :=
  ⟨fun R m d vs w hV _ => rises_any R m d vs w hV, fun R m d vs v w hV _ _ => search_any R m d vs v.kind v.i v.s v.b w hV⟩
end Dt
end Go.Proofs.Ytiokajaadmfohaa
