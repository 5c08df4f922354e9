/- What the reference of layer 6 does: May. -/
import Derived.Test.YtiokajaadmfohaaVaMay
import Derived.WalkLawsBesides
namespace Go.Proofs.Ytiokajaadmfohaa
set_option maxRecDepth 20000
open Go.RowKit
namespace Vc
open Va
theorem empty_list (s : ByteArray) : s.toList = [] ↔ s = ⟨#[]⟩ := by
  have := list_beq s ⟨#[]⟩
  rw [show (⟨#[]⟩ : ByteArray).toList = [] by rw [ByteArray.toList_eq]] at this
  constructor
  · intro h; rw [h] at this; simpa using this.symm
  · intro h; subst h; rw [ByteArray.toList_eq]
theorem empty_isEmpty (s : ByteArray) : s.toList.isEmpty = decide (s = ⟨#[]⟩) := by
  rw [Bool.eq_iff_iff]; simp [empty_list]
set_option maxHeartbeats 1000000 in
theorem refMay_any (k i : Int) (s : ByteArray) (b : Bool) (w : World) :
    Calls Try.prog 26 #[.agg #[.int .i64 k, .int .i64 i, .string s, .bool b]] w fun e w' => e = .returned (.bool (mayB k i s b)) ∧ Below w.heap.size w w' := by
  obtain ⟨r, hr⟩ : ∃ r, r = mayB k i s b := ⟨_, rfl⟩
  rw [← hr]
  have Hr := Lib.hid hr
  clear hr
  by_cases h0 : k = 0
  · subst h0
    go_enter Try.func26, Try.ntmps26
    go_wp2_with fail
    all_goals (go_ret; refine ⟨by rw [Hr.out]; simp_all [mayB, empty_list, empty_isEmpty]; try omega, (Below.refl _ _).alloc (Nat.le_refl _) _⟩)
  by_cases h1 : k = 1
  · subst h1
    go_enter Try.func26, Try.ntmps26
    go_wp2_with fail
    all_goals (go_ret; refine ⟨by rw [Hr.out]; simp_all [mayB, empty_list, empty_isEmpty]; try omega, (Below.refl _ _).alloc (Nat.le_refl _) _⟩)
  by_cases h2 : k = 2
  · subst h2
    go_enter Try.func26, Try.ntmps26
    go_wp2_with fail
    all_goals (go_ret; refine ⟨by rw [Hr.out]; simp_all [mayB, empty_isEmpty]; try omega, (Below.refl _ _).alloc (Nat.le_refl _) _⟩)
  by_cases h3 : k = 3
  · subst h3
    go_enter Try.func26, Try.ntmps26
    go_wp2_with fail
    all_goals (go_ret; refine ⟨by rw [Hr.out]; simp_all [mayB, empty_isEmpty]; try omega, (Below.refl _ _).alloc (Nat.le_refl _) _⟩)
  have q0 : (k == 0) = false := by simpa using h0
  have q1 : (k == 1) = false := by simpa using h1
  have q2 : (k == 2) = false := by simpa using h2
  have q3 : (k == 3) = false := by simpa using h3
  have hf := may_else (i := i) (s := s) (b := b) h0 h1 h2 h3
  have Hf := Lib.hid hf
  clear hf h0 h1 h2 h3
  go_enter Try.func26, Try.ntmps26
  go_wp2_with fail
  go_ret
  exact ⟨by rw [Hr.out, Hf.out]; rfl, (Below.refl _ _).alloc (Nat.le_refl _) _⟩
end Vc
end Go.Proofs.Ytiokajaadmfohaa
