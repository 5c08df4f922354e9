/- What the reference of layer 8 does: Add. -/
import Derived.Test.YtiokajaadmfohaaDcRefB
import Derived.Test.YtiokajaadmfohaaScVals
namespace Go.Proofs.Ytiokajaadmfohaa
set_option maxRecDepth 20000
open Go.RowKit
namespace Dx
open Va (Vl May ord)
open Vc (mayB mayB_iff refMay_any refOrder_any)
open Sc (tr tr_yes tr_no tr_iff)
open Dc
/-- An answer of a row of values (the argument's, or a new one), a number and an error's number. -/
def OutA (w : World) (R : Option Addr) (r : List Vl × Int × Int) (e : Ending) (w' : World) : Prop := ∃ A n c, e = .returned (.tuple #[.slice A n c, .int .i64 r.2.1, .int .i64 r.2.2]) ∧ Wd.Vs w' A n c r.1 ∧ Below w.heap.size w w' ∧ (A = R ∨ ∀ a, A = some a → w.heap.size ≤ a.block ∧ a.block < w'.heap.size)
theorem own_loc {w : World} {B : Nat} {e : TypeId} {size k n c : Nat} {A : Option Addr} {xs : List Value} (h : w.ownsRow B e size (.slice A n c) k xs) : ∀ a, A = some a → B ≤ a.block ∧ a.block < w.heap.size := by
  intro a ha
  rcases h.2 with ⟨h', _⟩ | ⟨g', cap', cur, h', hb, hh, _⟩
  · simp only [Value.slice.injEq] at h'
    rw [h'.1] at ha
    cases ha
  · simp only [Value.slice.injEq] at h'
    rw [h'.1] at ha
    cases ha
    exact ⟨hb, lt_of_block hh⟩
theorem lim_len {n : Nat} (k : Int) : lim k ≤ (n : Int) ↔ k ≤ (n : Int) ∨ (4096 : Int) ≤ (n : Int) := by
  unfold lim
  split
  · omega
  · split <;> omega
set_option maxHeartbeats 4000000 in
theorem refAdd_any (R : Option Addr) (m d : Nat) (vs : List Vl) (lm : Int) (k i : Int) (s : ByteArray) (b : Bool) (w : World) (hV : Wd.Vs w R m d vs) (h1 : Wd.V1 ⟨k, i, s, b⟩) :
    Calls Try.prog 13 #[.slice R m d, .int .i64 lm, .agg #[.int .i64 k, .int .i64 i, .string s, .bool b]] w (OutA w R (add vs lm ⟨k, i, s, b⟩)) := by
  have hb0 := (Below.refl w.heap.size w).alloc (Nat.le_refl _) (.cells #[.int .i64 k, .int .i64 i, .string s, .bool b] 24)
  have x0 : Vc.Vb (w.alloc (.cells #[.int .i64 k, .int .i64 i, .string s, .bool b] 24)) w.heap.size k i s b := Wd.Bx.new w _ _
  have Hm := Lib.hid hV.len
  have HV := Lib.hid (hV.below hb0)
  have hcap := hV.cap
  have hmx := hV.max
  unfold maxLen at hmx
  have Cm := refMay_any k i s b (w.alloc (.cells #[.int .i64 k, .int .i64 i, .string s, .bool b] 24))
  have Cf := fun w hV => refFind_any R m d vs k i s b w hV
  have Hx0 := Lib.hid x0
  have H1 := Lib.hid h1
  have Hv1 := Lib.hid fun j hj => (hV.at_ j hj)
  have hm : mayB k i s b = tr (May ⟨k, i, s, b⟩) := by rw [Bool.eq_iff_iff, mayB_iff, tr_iff]
  rw [hm] at Cm
  obtain ⟨r, hr⟩ : ∃ r, r = add vs lm ⟨k, i, s, b⟩ := ⟨_, rfl⟩
  rw [← hr]
  have Hr := Lib.hid hr
  clear hV x0 hm hr h1
  by_cases hM : May ⟨k, i, s, b⟩
  case neg =>
    have er := Lib.hid (Hr.out.trans (add_bad hM))
    rw [tr_no hM] at Cm
    have Cm := Lib.hid Cm
    clear hM
    go_enter Try.func13, Try.ntmps13
    obtain ⟨⟨y0, y1, y2, y3⟩, -⟩ := Vc.four Hx0.out
    go_wp2_with fail
    refine Cm.out.mono ?_
    rintro e w1 ⟨rfl, hB1⟩
    have hb1 := hb0.trans (hB1.mono hb0.size)
    go_wp2_with fail
    go_ret3
    exact ⟨_, _, _, by rw [er.out]; rfl, by rw [er.out]; exact HV.out.below hB1, hb1, .inl rfl⟩
  rw [tr_yes hM] at Cm
  have Cm := Lib.hid Cm
  have Cf := Lib.hid Cf
  have HM := Lib.hid hM
  obtain ⟨F, hF⟩ : ∃ F, F = fnd vs ⟨k, i, s, b⟩ := ⟨_, rfl⟩
  rw [← hF] at Cf
  have HF := Lib.hid hF
  clear hM hF
  by_cases hin : 0 ≤ F
  · have er := Lib.hid (Hr.out.trans (add_old HM.out (fnd_pos.1 (by rw [← HF.out]; exact hin))))
    rw [← HF.out] at er
    go_enter Try.func13, Try.ntmps13
    obtain ⟨⟨y0, y1, y2, y3⟩, -⟩ := Vc.four Hx0.out
    go_wp2_with fail
    generalize w.alloc (.cells #[.int .i64 k, .int .i64 i, .string s, .bool b] 24) = wa at *
    refine Cm.out.mono ?_
    rintro e w1 ⟨rfl, hB1⟩
    have hb1 := hb0.trans (hB1.mono hb0.size)
    have Hx1 := Lib.hid (Hx0.out.below (Wd.Bx.lt Hx0.out) hB1)
    have HV1 := Lib.hid (HV.out.below hB1)
    clear y0 y1 y2 y3 Cm HV Hx0 hB1 hb0
    obtain ⟨⟨y0, y1, y2, y3⟩, -⟩ := Vc.four Hx1.out
    go_wp2_with fail
    refine (Cf.out _ HV1.out).mono ?_
    rintro e w2 ⟨rfl, hB2⟩
    have hb2 := hb1.trans (hB2.mono hb1.size)
    go_wp2_with fail
    go_ret3
    exact ⟨_, _, _, by rw [er.out]; rfl, by rw [er.out]; exact HV1.out.below hB2, hb2, .inl rfl⟩
  have hni : (⟨k, i, s, b⟩ : Vl) ∉ vs := fun h => hin (by rw [HF.out]; exact fnd_pos.2 h)
  have Hni := Lib.hid hni
  clear hni
  by_cases hl : lim lm ≤ (m : Int)
  · have er := Lib.hid (Hr.out.trans (add_full HM.out Hni.out (by rw [← Hm.out]; exact hl)))
    have hl2 := (lim_len lm).1 hl
    clear hl
    go_enter Try.func13, Try.ntmps13
    obtain ⟨⟨y0, y1, y2, y3⟩, -⟩ := Vc.four Hx0.out
    go_wp2_with fail
    generalize w.alloc (.cells #[.int .i64 k, .int .i64 i, .string s, .bool b] 24) = wa at *
    refine Cm.out.mono ?_
    rintro e w1 ⟨rfl, hB1⟩
    have hb1 := hb0.trans (hB1.mono hb0.size)
    have Hx1 := Lib.hid (Hx0.out.below (Wd.Bx.lt Hx0.out) hB1)
    have HV1 := Lib.hid (HV.out.below hB1)
    clear y0 y1 y2 y3 Cm HV Hx0 hB1 hb0
    obtain ⟨⟨y0, y1, y2, y3⟩, -⟩ := Vc.four Hx1.out
    go_wp2_with fail
    refine (Cf.out _ HV1.out).mono ?_
    rintro e w2 ⟨rfl, hB2⟩
    have hb2 := hb1.trans (hB2.mono hb1.size)
    by_cases hlm : lm ≤ (m : Int)
    · go_wp2_with fail
      go_ret3
      exact ⟨_, _, _, by rw [er.out]; rfl, by rw [er.out]; exact HV1.out.below hB2, hb2, .inl rfl⟩
    · have h4 : (4096 : Int) ≤ (m : Int) := by rcases hl2 with h | h; exact absurd h hlm; exact h
      go_wp2_with fail
      go_ret3
      exact ⟨_, _, _, by rw [er.out]; rfl, by rw [er.out]; exact HV1.out.below hB2, hb2, .inl rfl⟩
  · have er := Lib.hid (Hr.out.trans (add_new HM.out Hni.out (by rw [← Hm.out]; omega)))
    have hlm : ¬ lm ≤ (m : Int) := fun h => hl ((lim_len lm).2 (.inl h))
    have h4 : ¬ (4096 : Int) ≤ (m : Int) := fun h => hl ((lim_len lm).2 (.inr h))
    have hvl : vs.length ≤ 4096 := by have := Hm.out; omega
    have hdk : ([] ++ vs).length ≤ 1000000 := by simp; omega
    clear hl
    go_enter Try.func13, Try.ntmps13
    obtain ⟨⟨y0, y1, y2, y3⟩, -⟩ := Vc.four Hx0.out
    go_wp2_with fail
    generalize w.alloc (.cells #[.int .i64 k, .int .i64 i, .string s, .bool b] 24) = wa at *
    refine Cm.out.mono ?_
    rintro e w1 ⟨rfl, hB1⟩
    have hb1 := hb0.trans (hB1.mono hb0.size)
    have Hx1 := Lib.hid (Hx0.out.below (Wd.Bx.lt Hx0.out) hB1)
    have HV1 := Lib.hid (HV.out.below hB1)
    clear y0 y1 y2 y3 Cm HV Hx0 hB1 hb0
    obtain ⟨⟨y0, y1, y2, y3⟩, -⟩ := Vc.four Hx1.out
    go_wp2_with fail
    refine (Cf.out _ HV1.out).mono ?_
    rintro e w2 ⟨rfl, hB2⟩
    have hb2 := hb1.trans (hB2.mono hb1.size)
    have Hx2 := Lib.hid (Hx1.out.below (Wd.Bx.lt Hx1.out) hB2)
    have HV2 := Lib.hid (HV1.out.below hB2)
    have hl2 := Wd.Bx.lt Hx2.out
    clear y0 y1 y2 y3 HV1 Hx1 hB2
    go_wp2_with (first
      | (at_builtin; refine Wd.wpList_appVs _ rfl (.const (.slice none 0 0)) (.tmp 34) rfl w2.heap.size (.slice none 0 0) [] rfl (World.ownsRow_nil _ _ _ _) R m d vs rfl HV2.out (by simp; omega) (Nat.le_refl _) ?_; intro v4 w4 hO4 hg4; have hb4 : Below w2.heap.size w2 w4 := (Below.refl _ _).grown hg4 (Nat.le_refl _) (by simp [Value.ownBlock]); have hz4 := hb4.size; obtain ⟨⟨y0, y1, y2, y3⟩, -⟩ := Vc.four (Hx2.out.below hl2 hb4); have hA5 := hb4.alloc hz4 (.cells #[.int .i64 k, .int .i64 i, .string s, .bool b] 24); have hO5 := hO4.alloc (.cells #[.int .i64 k, .int .i64 i, .string s, .bool b] 24); have hz5 := hA5.size; have hcv := Wd.vals_new w4 ⟨k, i, s, b⟩ _ rfl)
      | (at_builtin; refine Wd.wpList_appV1 _ rfl (.tmp 36) (.tmp 38) rfl w2.heap.size _ ([] ++ vs) rfl hO5 _ ⟨k, i, s, b⟩ rfl hcv hdk hz5 ?_; intro v6 w6 hO6 hg6; have hb6 : Below w2.heap.size w2 w6 := hA5.grown hg6 hz5 fun g hg => (hO5.lt g hg).1))
    go_ret3
    have hO7 := hO6
    obtain ⟨A6, n6, c6, rfl, hS6⟩ := Wd.Vs.of_own hO6 (Sx.v1_app (fun j hj => by
      obtain ⟨_, _, _, _, _, h⟩ := Hv1.out j (by simpa using hj)
      simpa using h) H1.out)
    exact ⟨A6, n6, c6, by rw [er.out]; show _ = Ending.returned (.tuple #[_, .int .i64 (vs.length : Int), .int .i64 0]); rw [← Hm.out]; rfl, by rw [er.out]; simpa using hS6, hb2.trans (hb6.mono hb2.size), .inr fun a ha => ⟨Nat.le_trans hb2.size (own_loc hO7 a ha).1, (own_loc hO7 a ha).2⟩⟩
end Dx
end Go.Proofs.Ytiokajaadmfohaa
