/- The walk of the statement DictSearches of layer 8. -/
import Derived.Test.YtiokajaadmfohaaDcIfc
namespace Go.Proofs.Ytiokajaadmfohaa
set_option maxRecDepth 20000
open Go.RowKit
namespace Dx
open Va (Vl May ord null)
open Sc (tr tr_yes tr_no tr_iff)
open Dc
/-- What Rises and Search do. -/
structure IfcS : Prop where
  rises_ : ∀ (R : Option Addr) (m d : Nat) (vs : List Vl) (w : World), Wd.Vs w R m d vs → (∀ x ∈ vs, Okv x) → Calls Try.prog 24 #[.slice R m d] w fun e w' => e = .returned (.bool (tr (Ris vs))) ∧ Below w.heap.size w w'
  search_ : ∀ (R : Option Addr) (m d : Nat) (vs : List Vl) (v : Vl) (w : World), Wd.Vs w R m d vs → (∀ x ∈ vs, Okv x) → Okv v → Calls Try.prog 22 #[.slice R m d, ag v] w fun e w' => e = .returned (.tuple #[.int .i64 (schN vs v), .bool (schB vs v)]) ∧ Below w.heap.size w w'
theorem vs_lit1 (w : World) (t : TypeId) (k i : Int) (s : ByteArray) (b : Bool) (h1 : Wd.V1 ⟨k, i, s, b⟩) : Wd.Vs (w.alloc (.cells #[.int .i64 k, .int .i64 i, .string s, .bool b] t)) (some ⟨w.heap.size, 0, none⟩) 1 1 [⟨k, i, s, b⟩] := by
  have x := Wd.Bx.new w t #[.int .i64 k, .int .i64 i, .string s, .bool b]
  refine ⟨rfl, by omega, by unfold maxLen; omega, by simp, fun j hj => ?_⟩
  obtain rfl : j = 0 := by simpa using hj
  refine ⟨w.heap.size, 0, rfl, by simp, fun i' v hv => ?_, h1⟩
  rw [x.cell]
  simpa [Wd.vals] using hv
theorem few1 (v : Vl) : FewV [v] ↔ v.s.size ≤ 300 := by
  constructor
  · intro h
    exact h.2 0 (by simp)
  · intro h
    exact ⟨by simp, fun i hi => by
      obtain rfl : i = 0 := by simpa using hi
      exact h⟩
theorem okv_few {w : World} {R : Option Addr} {m d : Nat} {vs : List Vl} (hV : Wd.Vs w R m d vs) (hf : FewV vs) : ∀ x ∈ vs, Okv x := by
  intro x hx
  obtain ⟨i, hi⟩ := List.getElem?_of_mem hx
  have hl := (List.getElem?_eq_some_iff.1 hi).1
  obtain ⟨_, _, _, _, _, h1⟩ := hV.at_ i hl
  have h2 := hf.2 i hl
  rw [getD_at hl] at hi
  rw [Option.some.inj hi] at h1 h2
  exact ⟨h1, by unfold maxLen; omega⟩
end Dx
namespace Lw
open Dx Dc
open Va (Vl May ord null)
open Sc (tr tr_yes tr_no tr_iff)
variable {D : World → Nat → List Vl → Int → (Nat → Prop) → Prop}
set_option maxHeartbeats 8000000 in
theorem dictSearches_walk (I : Ifc D) (J : IfcS) (R : Option Addr) (m d : Nat) (vs : List Vl) (k i : Int) (s : ByteArray) (b : Bool) (w : World) (hV : Wd.Vs w R m d vs) (h1 : Wd.V1 ⟨k, i, s, b⟩) :
    Calls Try.prog 4 #[.slice R m d, .agg #[.int .i64 k, .int .i64 i, .string s, .bool b]] w fun e w' => e = .returned (.bool true) ∧ Below w.heap.size w w' := by
  have hb0 := (Below.refl w.heap.size w).alloc (Nat.le_refl _) (.cells #[.int .i64 k, .int .i64 i, .string s, .bool b] 24)
  have x0 : Vc.Vb (w.alloc (.cells #[.int .i64 k, .int .i64 i, .string s, .bool b] 24)) w.heap.size k i s b := Wd.Bx.new w _ _
  have HV := Lib.hid (hV.below hb0)
  have H1 := Lib.hid h1
  have Hx0 := Lib.hid x0
  clear hV h1 x0
  obtain ⟨f1, hf1⟩ : ∃ f, f = tr (FewV vs) := ⟨_, rfl⟩
  obtain ⟨f2, hf2⟩ : ∃ f, f = tr (FewV [⟨k, i, s, b⟩]) := ⟨_, rfl⟩
  have Hf1 := Lib.hid hf1
  have Hf2 := Lib.hid hf2
  clear hf1 hf2
  go_enter Try.func4, Try.ntmps4
  go_wp2_with fail
  generalize w.alloc (.cells #[.int .i64 k, .int .i64 i, .string s, .bool b] 24) = wa at *
  refine (awake_any I wa).mono ?_
  rintro e w1 ⟨rfl, hB1⟩
  have hb1 := hb0.trans (hB1.mono hb0.size)
  have Hx1 := Lib.hid (Hx0.out.below (Wd.Bx.lt Hx0.out) hB1)
  have HV1 := Lib.hid (HV.out.below hB1)
  clear HV Hx0 hB1 hb0
  have C1 := few_any R m d vs w1 HV1.out
  rw [← Hf1.out] at C1
  have C1 := Lib.hid C1
  go_wp2_with fail
  refine C1.out.mono ?_
  rintro e w1' ⟨rfl, rfl⟩
  obtain ⟨⟨y0, y1, y2, y3⟩, -⟩ := Vc.four Hx1.out
  have hb2 := hb1.alloc hb1.size (.cells #[.int .i64 k, .int .i64 i, .string s, .bool b] 24)
  have C2 := few_any _ 1 1 [⟨k, i, s, b⟩] _ (vs_lit1 w1' 24 k i s b H1.out)
  rw [← Hf2.out] at C2
  have C2 := Lib.hid C2
  go_wp2_with fail
  have hbA := (Below.refl w1'.heap.size w1').alloc (Nat.le_refl _) (.cells #[.int .i64 k, .int .i64 i, .string s, .bool b] 24)
  have Hx2 := Lib.hid (Hx1.out.below (Wd.Bx.lt Hx1.out) hbA)
  have HV2 := Lib.hid (HV1.out.below hbA)
  generalize w1'.alloc (.cells #[.int .i64 k, .int .i64 i, .string s, .bool b] 24) = w2 at *
  refine C2.out.mono ?_
  rintro e w2' ⟨rfl, rfl⟩
  clear C1 C2 y0 y1 y2 y3 Hx1 HV1 hbA hb1
  cases f1
  · cases f2 <;> (go_wp2_with fail; go_ret; exact ⟨rfl, hb2⟩)
  cases f2
  · go_wp2_with fail
    go_ret
    exact ⟨rfl, hb2⟩
  have hF1 : FewV vs := tr_iff.1 Hf1.out.symm
  have hF2 : s.size ≤ 300 := (few1 _).1 (tr_iff.1 Hf2.out.symm)
  have hok := okv_few HV2.out hF1
  have hokv : Okv ⟨k, i, s, b⟩ := ⟨H1.out, by show s.size ≤ maxLen; unfold maxLen; omega⟩
  have S1 := fun w hV => J.search_ R m d vs ⟨k, i, s, b⟩ w hV hok hokv
  have S2 := fun w hV => refSearch_any R m d vs k i s b w hV fun x hx => (hok x hx).2
  have S3 := fun w hV => J.rises_ R m d vs w hV hok
  have S4 := fun w hV => refRises_any R m d vs w hV fun x hx => (hok x hx).2
  unfold ag at S1
  generalize schN vs ⟨k, i, s, b⟩ = sn at *
  generalize schB vs ⟨k, i, s, b⟩ = sb at *
  generalize tr (Ris vs) = rb at *
  have S1 := Lib.hid S1
  have S2 := Lib.hid S2
  have S3 := Lib.hid S3
  have S4 := Lib.hid S4
  clear hF1 hF2 hok hokv
  obtain ⟨⟨y0, y1, y2, y3⟩, -⟩ := Vc.four Hx2.out
  go_wp2_with fail
  refine (S1.out _ HV2.out).mono ?_
  rintro e w3 ⟨rfl, hB3⟩
  have hb3 := hb2.trans (hB3.mono hb2.size)
  have Hx3 := Lib.hid (Hx2.out.below (Wd.Bx.lt Hx2.out) hB3)
  have HV3 := Lib.hid (HV2.out.below hB3)
  clear y0 y1 y2 y3 Hx2 HV2 hB3 hb2
  obtain ⟨⟨y0, y1, y2, y3⟩, -⟩ := Vc.four Hx3.out
  go_wp2_with fail
  refine (S2.out _ HV3.out).mono ?_
  rintro e w4 ⟨rfl, hB4⟩
  have hb4 := hb3.trans (hB4.mono hb3.size)
  have HV4 := Lib.hid (HV3.out.below hB4)
  clear y0 y1 y2 y3 Hx3 HV3 hB4 hb3
  go_wp2_with fail
  refine (S3.out _ HV4.out).mono ?_
  rintro e w5 ⟨rfl, hB5⟩
  have hb5 := hb4.trans (hB5.mono hb4.size)
  have HV5 := Lib.hid (HV4.out.below hB5)
  go_wp2_with fail
  refine (S4.out _ HV5.out).mono ?_
  rintro e w6 ⟨rfl, hB6⟩
  have hb6 := hb5.trans (hB6.mono hb5.size)
  go_wp2_with fail
  go_ret
  exact ⟨by simp, hb6⟩
end Lw
end Go.Proofs.Ytiokajaadmfohaa
