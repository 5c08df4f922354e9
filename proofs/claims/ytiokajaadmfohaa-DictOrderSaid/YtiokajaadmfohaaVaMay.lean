/- What value.May does, and the reference's May. -/
import Derived.Test.YtiokajaadmfohaaVaBase
import Derived.Test.YtiokajaadmfohaaBox
import Derived.Laws.StructEq
import Derived.BigRegion
import Derived.Deep.RegionHeld3
import Derived.Deep.RegionWith
import Derived.BigQuiet
import Derived.Deep.QuietTactic
namespace Go.Proofs.Ytiokajaadmfohaa
set_option maxRecDepth 20000
open Go.RowKit
namespace Vc
open Va
/-- May this value be? -/
def mayB (k i : Int) (s : ByteArray) (b : Bool) : Bool :=
  decide (k = 0 ∧ i = 0 ∧ s = ⟨#[]⟩ ∧ b = false) || decide (k = 1 ∧ s = ⟨#[]⟩ ∧ b = false) || decide (k = 2 ∧ i = 0 ∧ s.size ≤ 64 ∧ b = false) || decide (k = 3 ∧ i = 0 ∧ s = ⟨#[]⟩)
theorem mayB_iff (k i : Int) (s : ByteArray) (b : Bool) : mayB k i s b = true ↔ May ⟨k, i, s, b⟩ := by
  unfold mayB May
  simp [or_assoc]
theorem list_beq (s t : ByteArray) : (s.toList == t.toList) = decide (s = t) := by
  rw [ByteArray.toList_eq, ByteArray.toList_eq]
  by_cases h : s = t
  · subst h; simp
  · rw [decide_eq_false h]
    have : ¬ s.data.toList = t.data.toList := fun q => h (WideShapes.bytes_inj q)
    simpa using this
theorem eqV (k i : Int) (s : ByteArray) (b : Bool) (k' i' : Int) (s' : ByteArray) (b' : Bool) (w : World) :
    (Op.equalIn 10000 24 (.agg #[.int .i64 k, .int .i64 i, .string s, .bool b]) (.agg #[.int .i64 k', .int .i64 i', .string s', .bool b'])).run Try.prog w = .ok (decide (k = k' ∧ i = i' ∧ s = s' ∧ b = b')) w := by
  have u3 := Try.underlying3
  have u4 := Try.underlying4
  have u9 := Try.underlying9
  rw [show (10000 : Nat) = 9999 + 1 from rfl, run_equalIn_struct _ _ _ _ _ (by kernel_rfl) (by kernel_rfl)]
  rw [show (Try.prog.fieldsOf 24).toList = [{ name := "Kind", type := 3, offset := 0, embedded := false, tag := "", pkgPath := "", byteOffset := 0 }, { name := "I", type := 3, offset := 1, embedded := false, tag := "", pkgPath := "", byteOffset := 8 }, { name := "S", type := 9, offset := 2, embedded := false, tag := "", pkgPath := "", byteOffset := 16 }, { name := "B", type := 4, offset := 3, embedded := false, tag := "", pkgPath := "", byteOffset := 32 }] by kernel_rfl]
  have g := list_beq s s'
  by_cases h1 : k = k' <;> by_cases h2 : i = i' <;> by_cases h3 : s = s' <;> by_cases h4 : b = b' <;> simp [h3] at g <;> go_simp <;> simp_all
/-- What the program holds a value against. -/
theorem may_own {k i : Int} {s : ByteArray} {b : Bool} (h : k = 0 ∨ k = 1 ∨ k = 3 ∨ (k = 2 ∧ s.size ≤ 64)) : decide (k = k ∧ i = ownI k i ∧ s = ownS k s ∧ b = ownB k b) = mayB k i s b := by
  unfold mayB ownI ownS ownB
  rcases h with rfl | rfl | rfl | ⟨rfl, h⟩ <;> simp_all
theorem may_long {i : Int} {s : ByteArray} {b : Bool} (h : 64 < s.size) : mayB 2 i s b = false := by
  unfold mayB
  have : ¬ s.size ≤ 64 := by omega
  simp [this]
theorem may_else {k i : Int} {s : ByteArray} {b : Bool} (h0 : k ≠ 0) (h1 : k ≠ 1) (h2 : k ≠ 2) (h3 : k ≠ 3) : mayB k i s b = false := by
  unfold mayB
  simp [h0, h1, h2, h3]
set_option maxHeartbeats 2000000 in
theorem may_any (k i : Int) (s : ByteArray) (b : Bool) (w : World) :
    Calls Try.prog 29 #[.agg #[.int .i64 k, .int .i64 i, .string s, .bool b]] w fun e w' => e = .returned (.bool (mayB k i s b)) ∧ Below w.heap.size w w' := by
  by_cases hc : k = 0 ∨ k = 1 ∨ k = 3 ∨ (k = 2 ∧ s.size ≤ 64)
  · have heq := fun w => eqV k i s b k (ownI k i) (ownS k s) (ownB k b) w
    rw [may_own hc] at heq
    obtain ⟨r, hr⟩ : ∃ r, r = mayB k i s b := ⟨_, rfl⟩
    rw [← hr] at heq ⊢
    clear hr
    have hg : Try.prog.eqGuardType Try.prog.depth 24 = false := by kernel_rfl
    have Co := Lib.hid own_any
    rcases hc with rfl | rfl | rfl | ⟨rfl, hs⟩
    · go_enter Try.func29, Try.ntmps29
      go_wp2_with fail
      have hb0 := (Below.refl w.heap.size w).alloc (Nat.le_refl _) (.cells #[.int .i64 0, .int .i64 i, .string s, .bool b] 24)
      have v0 : Vb (w.alloc (.cells #[.int .i64 0, .int .i64 i, .string s, .bool b] 24)) w.heap.size 0 i s b := Wd.Bx.new w _ _
      generalize w.alloc (.cells #[.int .i64 0, .int .i64 i, .string s, .bool b] 24) = w1 at *
      have hl0 := Wd.Bx.lt v0
      obtain ⟨⟨u0, u1, u2, u3⟩, -⟩ := four v0
      go_region_with (first | (go_at_call 36; (with_reducible refine (Co.out _ _ _ _ _).mono ?_); rintro e w2 ⟨rfl, hB2⟩; have hb2 : Below w1.heap.size w1 w2 := Wd.of_drew hB2; obtain ⟨⟨_, _, _, _⟩, -⟩ := four (Wd.Bx.below v0 hl0 hb2)))
      all_goals (go_wp2_with fail; go_ret; exact ⟨rfl, hb0.trans (hb2.mono hb0.size)⟩)
    · go_enter Try.func29, Try.ntmps29
      go_wp2_with fail
      have hb0 := (Below.refl w.heap.size w).alloc (Nat.le_refl _) (.cells #[.int .i64 1, .int .i64 i, .string s, .bool b] 24)
      have v0 : Vb (w.alloc (.cells #[.int .i64 1, .int .i64 i, .string s, .bool b] 24)) w.heap.size 1 i s b := Wd.Bx.new w _ _
      generalize w.alloc (.cells #[.int .i64 1, .int .i64 i, .string s, .bool b] 24) = w1 at *
      have hl0 := Wd.Bx.lt v0
      obtain ⟨⟨u0, u1, u2, u3⟩, -⟩ := four v0
      go_region_with (first | (go_at_call 36; (with_reducible refine (Co.out _ _ _ _ _).mono ?_); rintro e w2 ⟨rfl, hB2⟩; have hb2 : Below w1.heap.size w1 w2 := Wd.of_drew hB2; obtain ⟨⟨_, _, _, _⟩, -⟩ := four (Wd.Bx.below v0 hl0 hb2)))
      all_goals (go_wp2_with fail; go_ret; exact ⟨rfl, hb0.trans (hb2.mono hb0.size)⟩)
    · go_enter Try.func29, Try.ntmps29
      go_wp2_with fail
      have hb0 := (Below.refl w.heap.size w).alloc (Nat.le_refl _) (.cells #[.int .i64 3, .int .i64 i, .string s, .bool b] 24)
      have v0 : Vb (w.alloc (.cells #[.int .i64 3, .int .i64 i, .string s, .bool b] 24)) w.heap.size 3 i s b := Wd.Bx.new w _ _
      generalize w.alloc (.cells #[.int .i64 3, .int .i64 i, .string s, .bool b] 24) = w1 at *
      have hl0 := Wd.Bx.lt v0
      obtain ⟨⟨u0, u1, u2, u3⟩, -⟩ := four v0
      go_region_with (first | (go_at_call 36; (with_reducible refine (Co.out _ _ _ _ _).mono ?_); rintro e w2 ⟨rfl, hB2⟩; have hb2 : Below w1.heap.size w1 w2 := Wd.of_drew hB2; obtain ⟨⟨_, _, _, _⟩, -⟩ := four (Wd.Bx.below v0 hl0 hb2)))
      all_goals (go_wp2_with fail; go_ret; exact ⟨rfl, hb0.trans (hb2.mono hb0.size)⟩)
    · have hsI : ¬ (64 : Int) < (s.size : Int) := by omega
      go_enter Try.func29, Try.ntmps29
      go_wp2_with fail
      have hb0 := (Below.refl w.heap.size w).alloc (Nat.le_refl _) (.cells #[.int .i64 2, .int .i64 i, .string s, .bool b] 24)
      have v0 : Vb (w.alloc (.cells #[.int .i64 2, .int .i64 i, .string s, .bool b] 24)) w.heap.size 2 i s b := Wd.Bx.new w _ _
      generalize w.alloc (.cells #[.int .i64 2, .int .i64 i, .string s, .bool b] 24) = w1 at *
      have hl0 := Wd.Bx.lt v0
      obtain ⟨⟨u0, u1, u2, u3⟩, -⟩ := four v0
      go_region_with (first | (go_at_call 36; (with_reducible refine (Co.out _ _ _ _ _).mono ?_); rintro e w2 ⟨rfl, hB2⟩; have hb2 : Below w1.heap.size w1 w2 := Wd.of_drew hB2; obtain ⟨⟨_, _, _, _⟩, -⟩ := four (Wd.Bx.below v0 hl0 hb2)))
      all_goals (go_wp2_with fail; go_ret; exact ⟨rfl, hb0.trans (hb2.mono hb0.size)⟩)
  · obtain ⟨r, hr⟩ : ∃ r, r = mayB k i s b := ⟨_, rfl⟩
    have hf : mayB k i s b = false := by
      by_cases h2 : k = 2
      · subst h2
        exact may_long (by omega)
      · exact may_else (by omega) (by omega) h2 (by omega)
    rw [hf]
    clear hr hf
    by_cases h2 : k = 2
    · subst h2
      have hsI : (64 : Int) < (s.size : Int) := by omega
      go_enter Try.func29, Try.ntmps29
      go_wp2_with fail
      go_ret
      exact ⟨rfl, (Below.refl _ _).alloc (Nat.le_refl _) _⟩
    · have q0 : (k == 0) = false := by simp; omega
      have q1 : (k == 1) = false := by simp; omega
      have q2 : (k == 2) = false := by simp; omega
      have q3 : (k == 3) = false := by simp; omega
      clear hc h2
      go_enter Try.func29, Try.ntmps29
      go_wp2_with fail
      go_ret
      exact ⟨rfl, (Below.refl _ _).alloc (Nat.le_refl _) _⟩
end Vc
end Go.Proofs.Ytiokajaadmfohaa
