/- Package journal: which entries may be. -/
import Derived.Lib.Hide
import Derived.IntWalk
import Derived.Outline
import Derived.RegionTactic
import Derived.Deep.DeepCutAuto
import Derived.Deep.RegionLaw
import Derived.Deep.RegionHeld3
import Derived.StillTailTactics
import Derived.WalkSpells
import Derived.WalkLawsBesides
import Derived.Laws.StructEq
import Derived.BigQuiet
import Derived.Deep.QuietTactic
import Derived.Test.YtljgalleiemaaaaPk04
namespace Go.Proofs.Ytljgalleiemaaaa
set_option maxRecDepth 20000
open Go.RowKit
namespace Jr
open Jo (En May Wf Rg)
/-- A proposition's truth. -/
noncomputable def tr (p : Prop) : Bool := by classical exact decide p
theorem tr_yes {p : Prop} (h : p) : tr p = true := by simp [tr, h]
theorem tr_no {p : Prop} (h : ¬ p) : tr p = false := by simp [tr, h]
def wn (n a b : Int) : Bool := decide (a ≤ n) && decide (n ≤ b)
theorem wn_yes {n a b : Int} (h : a ≤ n ∧ n ≤ b) : wn n a b = true := by simp [wn, h.1, h.2]
theorem wn_no {n a b : Int} (h : ¬ (a ≤ n ∧ n ≤ b)) : wn n a b = false := by
  simp only [wn, Bool.and_eq_false_iff, decide_eq_false_iff_not]
  omega
theorem within_any (n a b : Int) (w : World) : Calls Try.prog 29 #[.int .i64 n, .int .i64 a, .int .i64 b] w fun e w' => e = .returned (.bool (wn n a b)) ∧ w = w' := by
  by_cases h : a ≤ n
  · by_cases h2 : n ≤ b
    · rw [wn_yes ⟨h, h2⟩]
      go_enter Try.func29, Try.ntmps29
      go_wp2_with fail
      go_ret
      exact ⟨rfl, rfl⟩
    · rw [wn_no (fun q => h2 q.2)]
      go_enter Try.func29, Try.ntmps29
      go_wp2_with fail
      go_ret
      exact ⟨rfl, rfl⟩
  · rw [wn_no (fun q => h q.1)]
    go_enter Try.func29, Try.ntmps29
    go_wp2_with fail
    go_ret
    exact ⟨rfl, rfl⟩
theorem eqE (k p i a b c d k' p' i' a' b' c' d' : Int) (w : World) :
    (Op.equalIn 10000 32 (.agg #[.int .i64 k, .int .i64 p, .int .i64 i, .int .i64 a, .int .i64 b, .int .i64 c, .int .i64 d]) (.agg #[.int .i64 k', .int .i64 p', .int .i64 i', .int .i64 a', .int .i64 b', .int .i64 c', .int .i64 d'])).run Try.prog w = .ok (decide (k = k' ∧ p = p' ∧ i = i' ∧ a = a' ∧ b = b' ∧ c = c' ∧ d = d')) w := by
  have u3 := Try.underlying3
  rw [show (10000 : Nat) = 9999 + 1 from rfl, run_equalIn_struct _ _ _ _ _ (by kernel_rfl) (by kernel_rfl)]
  rw [show (Try.prog.fieldsOf 32).toList = [{ name := "Kind", type := 3, offset := 0, embedded := false, tag := "", pkgPath := "", byteOffset := 0 }, { name := "Part", type := 3, offset := 1, embedded := false, tag := "", pkgPath := "", byteOffset := 8 }, { name := "ID", type := 3, offset := 2, embedded := false, tag := "", pkgPath := "", byteOffset := 16 }, { name := "Start", type := 3, offset := 3, embedded := false, tag := "", pkgPath := "", byteOffset := 24 }, { name := "End", type := 3, offset := 4, embedded := false, tag := "", pkgPath := "", byteOffset := 32 }, { name := "Size", type := 3, offset := 5, embedded := false, tag := "", pkgPath := "", byteOffset := 40 }, { name := "Sum", type := 3, offset := 6, embedded := false, tag := "", pkgPath := "", byteOffset := 48 }] by kernel_rfl]
  by_cases h1 : k = k'
  · by_cases h2 : p = p'
    · by_cases h3 : i = i'
      · by_cases h4 : a = a'
        · by_cases h5 : b = b'
          · by_cases h6 : c = c'
            · by_cases h7 : d = d' <;> go_simp <;> simp_all
            · go_simp <;> simp_all
          · go_simp <;> simp_all
        · go_simp <;> simp_all
      · go_simp <;> simp_all
    · go_simp <;> simp_all
  · go_simp <;> simp_all
/-- What a kind allows of the fields behind the ID. -/
def Rest (k a b c d : Int) : Prop := (k = 1 ∧ 0 ≤ a ∧ a ≤ b ∧ b ≤ 1099511627776 ∧ 0 ≤ c ∧ c ≤ 16777216 ∧ 0 ≤ d ∧ d ≤ 4294967295) ∨ (k = 2 ∧ a = 0 ∧ b = 0 ∧ c = 0 ∧ d = 0) ∨ (k = 3 ∧ a = 0 ∧ 0 ≤ b ∧ b ≤ 1099511627776 ∧ c = 0 ∧ d = 0)
set_option maxHeartbeats 2000000 in
theorem mayRest_any (k p i a b c d : Int) (w : World) :
    Calls Try.prog 30 #[.agg #[.int .i64 k, .int .i64 p, .int .i64 i, .int .i64 a, .int .i64 b, .int .i64 c, .int .i64 d]] w fun e w' => e = .returned (.bool (tr (Rest k a b c d))) ∧ Below w.heap.size w w' := by
  have hg : Try.prog.eqGuardType Try.prog.depth 32 = false := by kernel_rfl
  have al := (((Below.refl w.heap.size w).alloc (Nat.le_refl _) (.cells #[.int .i64 k, .int .i64 p, .int .i64 i, .int .i64 a, .int .i64 b, .int .i64 c, .int .i64 d] 32)).alloc (by simp) (.cells #[.int .i64 0, .int .i64 0, .int .i64 0, .int .i64 a, .int .i64 b, .int .i64 c, .int .i64 d] 32))
  have AL := Lib.hid al
  clear al
  by_cases h1 : k = 1
  · subst h1
    by_cases c1 : 0 ≤ a ∧ a ≤ b
    · have w1 := wn_yes c1
      by_cases c2 : b ≤ 1099511627776
      · by_cases c3 : 0 ≤ c ∧ c ≤ 16777216
        · have w3 := wn_yes c3
          by_cases c4 : 0 ≤ d ∧ d ≤ 4294967295
          · have w4 := wn_yes c4
            rw [tr_yes (show Rest 1 a b c d from .inl ⟨rfl, c1.1, c1.2, c2, c3.1, c3.2, c4.1, c4.2⟩)]
            clear c1 c3 c4
            go_enter Try.func30, Try.ntmps30
            go_wp2_with (refine (within_any _ _ _ _).mono ?_; rintro e w' ⟨rfl, rfl⟩)
            go_ret
            exact ⟨rfl, AL.out⟩
          · have w4 := wn_no c4
            rw [tr_no (show ¬ Rest 1 a b c d from by unfold Rest; omega)]
            clear c1 c3 c4
            go_enter Try.func30, Try.ntmps30
            go_wp2_with (refine (within_any _ _ _ _).mono ?_; rintro e w' ⟨rfl, rfl⟩)
            go_ret
            exact ⟨rfl, AL.out⟩
        · have w3 := wn_no c3
          rw [tr_no (show ¬ Rest 1 a b c d from by unfold Rest; omega)]
          clear c1 c3
          go_enter Try.func30, Try.ntmps30
          go_wp2_with (refine (within_any _ _ _ _).mono ?_; rintro e w' ⟨rfl, rfl⟩)
          go_ret
          exact ⟨rfl, AL.out⟩
      · rw [tr_no (show ¬ Rest 1 a b c d from by unfold Rest; omega)]
        clear c1
        go_enter Try.func30, Try.ntmps30
        go_wp2_with (refine (within_any _ _ _ _).mono ?_; rintro e w' ⟨rfl, rfl⟩)
        go_ret
        exact ⟨rfl, AL.out⟩
    · have w1 := wn_no c1
      rw [tr_no (show ¬ Rest 1 a b c d from by unfold Rest; omega)]
      clear c1
      go_enter Try.func30, Try.ntmps30
      go_wp2_with (refine (within_any _ _ _ _).mono ?_; rintro e w' ⟨rfl, rfl⟩)
      go_ret
      exact ⟨rfl, AL.out⟩
  · by_cases h2 : k = 2
    · subst h2
      obtain ⟨r, hr⟩ : ∃ r, r = tr (Rest 2 a b c d) := ⟨_, rfl⟩
      have heq := fun w => eqE 0 0 0 a b c d 0 0 0 0 0 0 0 w
      have e : decide ((0 : Int) = 0 ∧ (0 : Int) = 0 ∧ (0 : Int) = 0 ∧ a = 0 ∧ b = 0 ∧ c = 0 ∧ d = 0) = r := by
        rw [hr]
        by_cases q : a = 0 ∧ b = 0 ∧ c = 0 ∧ d = 0
        · rw [tr_yes (show Rest 2 a b c d from .inr (.inl ⟨rfl, q.1, q.2.1, q.2.2.1, q.2.2.2⟩))]
          simp [q]
        · rw [tr_no (show ¬ Rest 2 a b c d from by unfold Rest; omega)]
          simpa using q
      rw [e] at heq
      rw [← hr]
      clear hr e
      go_enter Try.func30, Try.ntmps30
      go_wp2_with fail
      go_ret
      exact ⟨rfl, AL.out⟩
    · by_cases h3 : k = 3
      · subst h3
        by_cases c1 : 0 ≤ b ∧ b ≤ 1099511627776
        · have w1 := wn_yes c1
          obtain ⟨r, hr⟩ : ∃ r, r = tr (Rest 3 a b c d) := ⟨_, rfl⟩
          have heq := fun w => eqE 0 0 0 a b c d 0 0 0 0 b 0 0 w
          have e : decide ((0 : Int) = 0 ∧ (0 : Int) = 0 ∧ (0 : Int) = 0 ∧ a = 0 ∧ b = b ∧ c = 0 ∧ d = 0) = r := by
            rw [hr]
            by_cases q : a = 0 ∧ c = 0 ∧ d = 0
            · rw [tr_yes (show Rest 3 a b c d from .inr (.inr ⟨rfl, q.1, c1.1, c1.2, q.2.1, q.2.2⟩))]
              simp [q]
            · rw [tr_no (show ¬ Rest 3 a b c d from by unfold Rest; omega)]
              simpa using q
          rw [e] at heq
          rw [← hr]
          clear hr e c1
          go_enter Try.func30, Try.ntmps30
          go_wp2_with (refine (within_any _ _ _ _).mono ?_; rintro e w' ⟨rfl, rfl⟩)
          go_ret
          exact ⟨rfl, AL.out⟩
        · have w1 := wn_no c1
          rw [tr_no (show ¬ Rest 3 a b c d from by unfold Rest; omega)]
          clear c1
          go_enter Try.func30, Try.ntmps30
          go_wp2_with (refine (within_any _ _ _ _).mono ?_; rintro e w' ⟨rfl, rfl⟩)
          go_ret
          exact ⟨rfl, AL.out⟩
      · rw [tr_no (show ¬ Rest k a b c d from by unfold Rest; omega)]
        have b1 : (k == 1) = false := by simpa using h1
        have b2 : (k == 2) = false := by simpa using h2
        have b3 : (k == 3) = false := by simpa using h3
        clear h1 h2 h3
        go_enter Try.func30, Try.ntmps30
        go_wp2_with fail
        go_ret
        exact ⟨rfl, AL.out⟩
theorem rest_may {x : En} : May x ↔ (0 ≤ x.part ∧ x.part ≤ 3) ∧ (1 ≤ x.id ∧ x.id ≤ 1073741824) ∧ Rest x.kind x.st x.en x.size x.sum := by
  unfold May Rest
  omega
theorem may_any (x : En) (w : World) :
    Calls Try.prog 17 #[.agg #[.int .i64 x.kind, .int .i64 x.part, .int .i64 x.id, .int .i64 x.st, .int .i64 x.en, .int .i64 x.size, .int .i64 x.sum]] w fun e w' => e = .returned (.bool (tr (May x))) ∧ Below w.heap.size w w' := by
  have al := (Below.refl w.heap.size w).alloc (Nat.le_refl _) (.cells #[.int .i64 x.kind, .int .i64 x.part, .int .i64 x.id, .int .i64 x.st, .int .i64 x.en, .int .i64 x.size, .int .i64 x.sum] 32)
  have AL := Lib.hid al
  have AS := Lib.hid al.size
  clear al
  by_cases c1 : 0 ≤ x.part ∧ x.part ≤ 3
  · have w1 := wn_yes c1
    by_cases c2 : 1 ≤ x.id ∧ x.id ≤ 1073741824
    · have w2 := wn_yes c2
      have e : tr (May x) = tr (Rest x.kind x.st x.en x.size x.sum) := by
        by_cases q : May x
        · rw [tr_yes q, tr_yes (rest_may.1 q).2.2]
        · rw [tr_no q, tr_no (fun z => q (rest_may.2 ⟨c1, c2, z⟩))]
      rw [e]
      clear e c1 c2
      go_enter Try.func17, Try.ntmps17
      go_wp2_with (first | (refine (within_any _ _ _ _).mono ?_; rintro e w' ⟨rfl, rfl⟩) | (refine (mayRest_any _ _ _ _ _ _ _ _).mono ?_; rintro e w' ⟨rfl, hb⟩))
      go_ret
      exact ⟨rfl, AL.out.trans (hb.mono AS.out)⟩
    · have w2 := wn_no c2
      rw [tr_no (fun q => c2 (rest_may.1 q).2.1)]
      clear c1 c2
      go_enter Try.func17, Try.ntmps17
      go_wp2_with (refine (within_any _ _ _ _).mono ?_; rintro e w' ⟨rfl, rfl⟩)
      go_ret
      exact ⟨rfl, AL.out⟩
  · have w1 := wn_no c1
    rw [tr_no (fun q => c1 (rest_may.1 q).1)]
    clear c1
    go_enter Try.func17, Try.ntmps17
    go_wp2_with (refine (within_any _ _ _ _).mono ?_; rintro e w' ⟨rfl, rfl⟩)
    go_ret
    exact ⟨rfl, AL.out⟩
end Jr
end Go.Proofs.Ytljgalleiemaaaa
