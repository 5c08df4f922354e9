/- The walks of the statements NumShort and NumTwice of layer 1. -/
import Derived.Test.YthbliihjfgmepaaNumAwake
namespace Go.Proofs.Ythbliihjfgmepaa
open Go.RowKit
namespace Lw
open Nc

theorem size_up (a b : Int) (h : 0 ≤ a ∧ a ≤ b ∨ a < 0 ∧ b ≤ a) : (Nm.vd (Nm.zz a)).length ≤ (Nm.vd (Nm.zz b)).length := by
  refine Nm.vdF_mono 9 _ _ ?_
  unfold Nm.zz
  split <;> split <;> omega
theorem size_neg (a : Int) (h : a ≠ 0) : (Nm.vd (Nm.zz (-a))).length ≤ (Nm.vd (Nm.zz a)).length + 1 ∧ (Nm.vd (Nm.zz a)).length ≤ (Nm.vd (Nm.zz (-a))).length + 1 := by
  by_cases h1 : a < 0
  · have e : Nm.zz (-a) = Nm.zz a + 1 := by unfold Nm.zz; rw [if_neg (by omega), if_pos h1]; omega
    rw [e]
    have := Nm.vdF_next 9 (Nm.zz a) (Nm.zz_lo a)
    have h2 := Nm.vdF_mono 9 (Nm.zz a) (Nm.zz a + 1) (by omega)
    unfold Nm.vd
    omega
  · have e : Nm.zz a = Nm.zz (-a) + 1 := by unfold Nm.zz; rw [if_neg h1, if_pos (by omega)]; omega
    rw [e]
    have := Nm.vdF_next 9 (Nm.zz (-a)) (Nm.zz_lo _)
    have h2 := Nm.vdF_mono 9 (Nm.zz (-a)) (Nm.zz (-a) + 1) (by omega)
    unfold Nm.vd
    omega

set_option maxHeartbeats 1000000 in
theorem numShort_walk (a b : Int) (w : World) (a1 : -9223372036854775808 ≤ a) (a2 : a ≤ 9223372036854775807) (b1 : -9223372036854775808 ≤ b) (b2 : b ≤ 9223372036854775807) :
    Calls Try.prog 7 #[.int .i64 a, .int .i64 b] w fun e w' => e = .returned (.bool true) ∧ Below w.heap.size w w' := by
  have cx := size_any a
  have cy := size_any b
  have cz := size_any (-a)
  have lx := Nm.vd_len (Nm.zz a)
  have ly := Nm.vd_len (Nm.zz b)
  have lz := Nm.vd_len (Nm.zz (-a))
  have hup := size_up a b
  have hneg := size_neg a
  generalize (Nm.vd (Nm.zz a)).length = X at *
  generalize (Nm.vd (Nm.zz b)).length = Y at *
  generalize (Nm.vd (Nm.zz (-a))).length = Z at *
  obtain ⟨x1, x2⟩ := lx
  obtain ⟨y1, y2⟩ := ly
  obtain ⟨z1, z2⟩ := lz
  have Cx := Lib.hid cx
  have Cy := Lib.hid cy
  have Cz := Lib.hid cz
  clear cx cy cz
  have hcase : (0 ≤ a ∧ a ≤ b ∧ X ≤ Y) ∨ (0 ≤ a ∧ b < a) ∨ (a < 0 ∧ b ≤ a ∧ X ≤ Y) ∨ (a < 0 ∧ a < b) := by omega
  have hneg' : a = 0 ∨ a = -9223372036854775808 ∨ (a ≠ 0 ∧ a ≠ -9223372036854775808 ∧ Z ≤ X + 1 ∧ X ≤ Z + 1) := by
    by_cases h : a = 0
    · exact .inl h
    · have := hneg h; omega
  clear hup hneg
  go_enter Try.func7, Try.ntmps7
  go_wp2_with fail
  refine (awake_any w).mono ?_
  rintro e w1 ⟨rfl, hB⟩
  go_wp2_with fail
  refine (Cx.out w1 a1 a2).mono ?_
  rintro e w2 ⟨rfl, rfl⟩
  go_wp2_with fail
  refine (Cy.out w1 b1 b2).mono ?_
  rintro e w2 ⟨rfl, rfl⟩
  rcases hneg' with h | h | ⟨h1, h2, h3, h4⟩
  · subst h
    rcases hcase with ⟨c1, c2, c3⟩ | ⟨c1, c2⟩ | ⟨c1, c2, c3⟩ | ⟨c1, c2⟩
    · go_wp2_with fail
      go_ret
      exact ⟨rfl, hB⟩
    · go_wp2_with fail
      go_ret
      exact ⟨rfl, hB⟩
    · omega
    · omega
  · subst h
    have hw : ((-9223372036854775808 : Int) == wrap64 9223372036854775808) = true := by unfold wrap64; decide
    rcases hcase with ⟨c1, c2, c3⟩ | ⟨c1, c2⟩ | ⟨c1, c2, c3⟩ | ⟨c1, c2⟩
    · omega
    · omega
    · go_wp2_with fail
      go_ret
      exact ⟨rfl, hB⟩
    · go_wp2_with fail
      go_ret
      exact ⟨rfl, hB⟩
  · have hne : (a == -a) = false := by simp; omega
    have ha1 : -9223372036854775808 < a := by omega
    have HX := Lib.hid h1
    have HM := Lib.hid h2
    clear h1 h2
    rcases hcase with ⟨c1, c2, c3⟩ | ⟨c1, c2⟩ | ⟨c1, c2, c3⟩ | ⟨c1, c2⟩
    all_goals
      go_wp2_with fail
      refine (Cz.out w1 (by omega) (by omega)).mono ?_
      rintro e w2 ⟨rfl, rfl⟩
      go_wp2_with fail
      go_ret
      exact ⟨Wd.yes (decide_eq_true (by omega)), hB⟩

set_option maxHeartbeats 1000000 in
theorem numTwice_walk (n : Int) (w : World) (n1 : -9223372036854775808 ≤ n) (n2 : n ≤ 9223372036854775807) :
    Calls Try.prog 8 #[.int .i64 n] w fun e w' => e = .returned (.bool true) ∧ Below w.heap.size w w' := by
  rcases (show n < 0 ∨ (0 ≤ n ∧ n ≤ 4611686018427387903) ∨ (0 ≤ n ∧ 4611686018427387903 < n) by omega) with h | ⟨h1, h2⟩ | ⟨h1, h2⟩
  · go_enter Try.func8, Try.ntmps8
    go_wp2_with fail
    refine (awake_any w).mono ?_
    rintro e w1 ⟨rfl, hB⟩
    go_wp2_with fail
    go_ret
    exact ⟨rfl, hB⟩
  · have hz : Nm.zz n = 2 * n := by unfold Nm.zz; rw [if_neg (by omega)]
    have c1 := fun w => put_any none 0 0 [] n w (Wd.Sl.none_ _ _) (by omega) n1 n2
    have c2 := fun w => putLen_any none 0 0 [] (2 * n) w (Wd.Sl.none_ _ _) (by omega) (by omega) (by omega)
    rw [hz] at c1
    rw [if_neg (show ¬ 2 * n < 0 by omega)] at c2
    simp only [List.nil_append] at c1 c2
    have hg : Nm.getL (Nm.vd (2 * n)) = (2 * n, ((Nm.vd (2 * n)).length : Int), 0) := by
      have := Nm.gv_vd (2 * n) [] (by omega) (by omega)
      rw [List.append_nil] at this
      unfold Nm.getL
      rw [this]
      exact if_neg (show ¬ 9223372036854775807 < 2 * n by omega)
    have hb := Nm.vd_byt (2 * n) (by omega) (by omega)
    have hl := Nm.vd_len (2 * n)
    generalize Nm.vd (2 * n) = ds at *
    have C1 := Lib.hid c1
    have C2 := Lib.hid c2
    have Hg := Lib.hid hg
    have Hl := Lib.hid hl
    clear c1 c2 hg hz hl
    go_enter Try.func8, Try.ntmps8
    go_wp2_with fail
    refine (awake_any w).mono ?_
    rintro e w1 ⟨rfl, hB⟩
    go_wp2_with fail
    refine (C1.out w1).mono ?_
    rintro e w2 ⟨A2, m2, k2, rfl, hS2, hB2⟩
    go_wp2_with fail
    refine (C2.out w2).mono ?_
    rintro e w3 ⟨A3, m3, k3, rfl, hS3, hB3⟩
    have hS2' := hS2.below hB3
    have hW : Below w.heap.size w w3 := (hB.trans (hB2.mono hB.size)).trans (hB3.mono (Nat.le_trans hB.size hB2.size))
    clear hB hB2 hB3 hS2
    go_wp2_with fail
    refine (same_yes A2 A3 m2 m3 k2 k3 ds ds w3 hS2' hS3 rfl).mono ?_
    rintro e w4 ⟨rfl, hB4⟩
    have hS4 := hS2'.below hB4
    have hW4 : Below w.heap.size w w4 := hW.trans (hB4.mono hW.size)
    clear hS2' hS3 hB4 hW
    have hm2 := hS4.len
    have Hm := Lib.hid hm2
    clear hm2
    go_wp2_with fail
    refine (getLen_any A2 m2 k2 ds w4 hS4 hb).mono ?_
    rintro e w5 ⟨rfl, rfl⟩
    rw [Hg.out]
    unfold three
    rw [← Hm.out]
    go_wp2_with fail
    go_ret
    exact ⟨rfl, hW4⟩
  · go_enter Try.func8, Try.ntmps8
    go_wp2_with fail
    refine (awake_any w).mono ?_
    rintro e w1 ⟨rfl, hB⟩
    go_wp2_with fail
    go_ret
    exact ⟨rfl, hB⟩
end Lw
end Go.Proofs.Ythbliihjfgmepaa
