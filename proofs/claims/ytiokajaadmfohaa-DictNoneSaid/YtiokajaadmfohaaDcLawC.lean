/- The walk of the statement DictNone of layer 8. -/
import Derived.Test.YtiokajaadmfohaaDcLawA
namespace Go.Proofs.Ytiokajaadmfohaa
set_option maxRecDepth 20000
open Go.RowKit
namespace Dx
open Va (Vl May ord null)
open Sc (tr tr_yes tr_no tr_iff)
open Dc
/-- What the methods of a nil dictionary do. -/
structure IfcN : Prop where
  add_ : ∀ (v : Vl) (w : World), Okv v → Calls Try.prog 12 #[.pointer none, ag v] w fun e w' => e = .returned (.tuple #[.int .i64 0, .int .i64 (if tr (May v) = true then 4 else 1)]) ∧ Below w.heap.size w w'
  find_ : ∀ (v : Vl) (w : World), Okv v → Calls Try.prog 15 #[.pointer none, ag v] w fun e w' => e = .returned (.tuple #[.int .i64 0, .bool false]) ∧ Below w.heap.size w w'
  at_ : ∀ (i : Int) (w : World), Calls Try.prog 17 #[.pointer none, .int .i64 i] w fun e w' => e = .returned (.tuple #[ag null, .bool false]) ∧ Below w.heap.size w w'
  len_ : ∀ (w : World), Calls Try.prog 14 #[.pointer none] w fun e w' => e = .returned (.int .i64 0) ∧ Below w.heap.size w w'
  sorted_ : ∀ (w : World), Calls Try.prog 18 #[.pointer none] w (OutS w [] [])
end Dx
namespace Lw
open Dx Dc
open Va (Vl May ord null)
open Vc (mayB mayB_iff refMay_any)
open Sc (tr tr_yes tr_no tr_iff)
variable {D : World → Nat → List Vl → Int → (Nat → Prop) → Prop}
set_option maxHeartbeats 8000000 in
theorem dictNone_walk (I : Ifc D) (J : IfcN) (k i : Int) (s : ByteArray) (b : Bool) (ix : Int) (w : World) (h1 : Wd.V1 ⟨k, i, s, b⟩) (_i0 : -9223372036854775808 ≤ ix) (_i1 : ix ≤ 9223372036854775807) :
    Calls Try.prog 6 #[.agg #[.int .i64 k, .int .i64 i, .string s, .bool b], .int .i64 ix] w fun e w' => e = .returned (.bool true) ∧ Below w.heap.size w w' := by
  have hb0 := (Below.refl w.heap.size w).alloc (Nat.le_refl _) (.cells #[.int .i64 k, .int .i64 i, .string s, .bool b] 24)
  have x0 : Vc.Vb (w.alloc (.cells #[.int .i64 k, .int .i64 i, .string s, .bool b] 24)) w.heap.size k i s b := Wd.Bx.new w _ _
  have Hx0 := Lib.hid x0
  clear x0
  have hm : mayB k i s b = tr (May ⟨k, i, s, b⟩) := by rw [Bool.eq_iff_iff, mayB_iff, tr_iff]
  have Cm := fun w => refMay_any k i s b w
  rw [hm] at Cm
  by_cases hs : s.size ≤ 300
  case neg =>
    have g1 : (300 : Int) < (s.size : Int) := by omega
    clear hs
    go_enter Try.func6, Try.ntmps6
    go_wp2_with fail
    generalize w.alloc (.cells #[.int .i64 k, .int .i64 i, .string s, .bool b] 24) = wa at *
    refine (awake_any I wa).mono ?_
    rintro e w1 ⟨rfl, hB1⟩
    have hb1 := hb0.trans (hB1.mono hb0.size)
    obtain ⟨⟨y0, y1, y2, y3⟩, -⟩ := Vc.four (Hx0.out.below (Wd.Bx.lt Hx0.out) hB1)
    go_wp2_with fail
    go_ret
    exact ⟨rfl, hb1⟩
  have g1 : ¬ (300 : Int) < (s.size : Int) := by omega
  have hok : Okv ⟨k, i, s, b⟩ := ⟨h1, by show s.size ≤ maxLen; unfold maxLen; omega⟩
  have C1 := fun w => J.add_ ⟨k, i, s, b⟩ w hok
  have C2 := fun w => J.find_ ⟨k, i, s, b⟩ w hok
  have C3 := fun w => J.at_ ix w
  unfold ag at C1 C2 C3
  unfold null at C3
  simp only [] at C3
  generalize tr (May ⟨k, i, s, b⟩) = mb at *
  have Cm := Lib.hid Cm
  have C1 := Lib.hid C1
  have C2 := Lib.hid C2
  have C3 := Lib.hid C3
  clear hs h1 hok hm
  go_enter Try.func6, Try.ntmps6
  go_wp2_with fail
  generalize w.alloc (.cells #[.int .i64 k, .int .i64 i, .string s, .bool b] 24) = wa at *
  refine (awake_any I wa).mono ?_
  rintro e w1 ⟨rfl, hB1⟩
  have hb1 := hb0.trans (hB1.mono hb0.size)
  have Hx1 := Lib.hid (Hx0.out.below (Wd.Bx.lt Hx0.out) hB1)
  clear Hx0 hB1 hb0
  obtain ⟨⟨y0, y1, y2, y3⟩, -⟩ := Vc.four Hx1.out
  go_wp2_with fail
  refine (C1.out _).mono ?_
  rintro e w2 ⟨rfl, hB2⟩
  have hb2 := hb1.trans (hB2.mono hb1.size)
  have Hx2 := Lib.hid (Hx1.out.below (Wd.Bx.lt Hx1.out) hB2)
  clear y0 y1 y2 y3 Hx1 hB2 hb1 C1
  obtain ⟨⟨y0, y1, y2, y3⟩, -⟩ := Vc.four Hx2.out
  have hmb : mb = true ∨ mb = false := by cases mb <;> simp
  rcases hmb with rfl | rfl
  all_goals (
    (try rw [if_pos rfl])
    (try rw [if_neg (by decide)])
    go_wp2_with fail
    refine (C2.out _).mono ?_
    rintro e w3 ⟨rfl, hB3⟩
    have hb3 := hb2.trans (hB3.mono hb2.size)
    have Hx3 := Lib.hid (Hx2.out.below (Wd.Bx.lt Hx2.out) hB3)
    clear y0 y1 y2 y3 Hx2 hB3 hb2 C2
    go_wp2_with fail
    refine (C3.out _).mono ?_
    rintro e w4 ⟨rfl, hB4⟩
    have hb4 := (hb3.trans (hB4.mono hb3.size)).alloc (hb3.trans (hB4.mono hb3.size)).size (.cells #[.int .i64 0, .int .i64 0, .string ⟨#[]⟩, .bool false] 24)
    have Hx4 := Lib.hid (Hx3.out.below (Wd.Bx.lt Hx3.out) (hB4.alloc hB4.size (.cells #[.int .i64 0, .int .i64 0, .string ⟨#[]⟩, .bool false] 24)))
    clear Hx3 hB4 hb3 C3
    go_wp2_with fail
    generalize w4.alloc (.cells #[.int .i64 0, .int .i64 0, .string ⟨#[]⟩, .bool false] 24) = w5 at *
    refine (J.sorted_ w5).mono ?_
    rintro e w6 ⟨A, n, c, B, m, q, rfl, hV, hT, hB6⟩
    obtain rfl : n = 0 := hV.len
    obtain rfl : m = 0 := hT.len
    have hb6 := hb4.trans (hB6.mono hb4.size)
    have Hx6 := Lib.hid (Hx4.out.below (Wd.Bx.lt Hx4.out) hB6)
    clear hV hT hB6 hb4 Hx4
    obtain ⟨⟨y0, y1, y2, y3⟩, -⟩ := Vc.four Hx6.out
    go_wp2_with fail
    refine (Cm.out _).mono ?_
    rintro e w7 ⟨rfl, hB7⟩
    have hb7 := hb6.trans (hB7.mono hb6.size)
    clear y0 y1 y2 y3 Hx6 hB7 hb6
    go_wp2_with fail
    refine (J.len_ _).mono ?_
    rintro e w8 ⟨rfl, hB8⟩
    have hb8 := hb7.trans (hB8.mono hb7.size)
    go_wp2_with fail
    go_ret
    exact ⟨by simp, hb8⟩)
end Lw
end Go.Proofs.Ytiokajaadmfohaa
