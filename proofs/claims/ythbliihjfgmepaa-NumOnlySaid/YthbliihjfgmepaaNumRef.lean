/- What the reference functions of layer 1 do: digits, Put, PutLen, Same. -/
import Derived.Test.YthbliihjfgmepaaNumPut
import Derived.Deep.QuietTactic
import Derived.BigQuiet
namespace Go.Proofs.Ythbliihjfgmepaa
open Go.RowKit
namespace Nc

set_option maxHeartbeats 400000 in
theorem digits_any (f : Nat) : ∀ (half odd : Int) (w : World), f ≤ 9 → 0 ≤ half → half ≤ 9223372036854775807 → 0 ≤ odd → odd ≤ 1 → 2 * half + odd < 128 ^ (f + 1) →
    Calls Try.prog 21 #[.int .i64 half, .int .i64 odd] w (Wd.Out w .u8 (Nm.vdF f (2 * half + odd))) := by
  obtain ⟨i0, hi, hz0, hz1, hz2⟩ := info_parts info_u8
  induction f with
  | zero =>
    intro half odd w hf9 h0 h1 o0 o1 hf
    have hf' : half ≤ 63 := by simp at hf; omega
    clear hf
    go_enter Try.func21, Try.ntmps21
    go_wp2_with fail
    go_ret
    exact Wd.Out.lit w .u8 [2 * half + odd] _ _ 1 rfl rfl (by simp [maxLen])
  | succ f ih =>
    intro half odd w hf9 h0 h1 o0 o1 hf
    by_cases hh : half < 64
    · rw [Nm.vdF_lo _ _ (by omega)]
      clear hf
      go_enter Try.func21, Try.ntmps21
      go_wp2_with fail
      go_ret
      exact Wd.Out.lit w .u8 [2 * half + odd] _ _ 1 rfl rfl (by simp [maxLen])
    · have hc := ih (half / 64 / 2) (half / 64 % 2) w (by omega) (by omega) (by omega) (by omega) (by omega) (by rw [Int.pow_succ] at hf; omega)
      have e1 : 2 * (half / 64 / 2) + half / 64 % 2 = (2 * half + odd) / 128 := by omega
      have hf' := (Nm.vdF_len f ((2 * half + odd) / 128)).2
      rw [e1] at hc
      have hv := Nm.vdF_hi f (2 * half + odd) (by omega)
      have e2 : (2 * half + odd) % 128 + 128 = 2 * (half % 64) + odd + 128 := by omega
      rw [e2] at hv
      rw [hv]
      generalize Nm.vdF f ((2 * half + odd) / 128) = ds at *
      have Hc := Lib.hid hc
      clear hv e1 e2 hc ih hf
      go_enter Try.func21, Try.ntmps21
      go_wp2_with fail
      refine Hc.out.mono ?_
      rintro e w1 ⟨A, n, c, rfl, hS, hB⟩
      have hn := hS.len
      have Hn := Lib.hid hn
      clear hn
      go_wp2_with (at_builtin; refine Wd.wpList_app _ rfl (.tmp 28) (.tmp 29) 22 rfl w1.heap.size 5 i0 _ .u8 1 Try.underlying22 hi hz0 hz1 hz2 rfl (.slice (some ⟨w1.heap.size, 0, none⟩) 1 1) [2 * (half % 64) + odd + 128] rfl (World.ownsRow_lit w1 _ 1 (Nat.le_refl _) (by simp [maxLen]) rfl) w1.heap.size A n c ds rfl Hn.out hS.nil (hS.rd.below ((Below.refl _ _).alloc (Nat.le_refl _) _)) (by simp; omega) (by simp [maxLen]; omega) (by simp) ?_; intro v' w2 hown hbel)
      go_ret
      refine Wd.Out.of_own hown ?_
      exact hB.trans ((((Below.refl _ _).alloc (Nat.le_refl _) _).grown hbel (by simp) (by simp [Value.ownBlock])).mono hB.size)

theorem refPut_any (n : Int) (w : World) (h0 : -9223372036854775808 ≤ n) (h1 : n ≤ 9223372036854775807) :
    Calls Try.prog 13 #[.int .i64 n] w (Wd.Out w .u8 (Nm.vd (Nm.zz n))) := by
  by_cases hn : n < 0
  · have hc := digits_any 9 (-(n + 1)) 1 w (by omega) (by omega) (by omega) (by omega) (by omega) (by rw [Nm.pow10]; omega)
    have e : 2 * -(n + 1) + 1 = Nm.zz n := by unfold Nm.zz; rw [if_pos hn]; omega
    rw [e] at hc
    have Hc := Lib.hid hc
    clear hc e
    go_enter Try.func13, Try.ntmps13
    go_wp2_with fail
    refine Hc.out.mono ?_
    rintro e w1 ⟨A, n, c, rfl, hS⟩
    go_wp2_with fail
    go_ret
    exact ⟨A, n, c, rfl, hS⟩
  · have hc := digits_any 9 n 0 w (by omega) (by omega) (by omega) (by omega) (by omega) (by rw [Nm.pow10]; omega)
    have e : 2 * n + 0 = Nm.zz n := by unfold Nm.zz; rw [if_neg hn]; omega
    rw [e] at hc
    have Hc := Lib.hid hc
    clear hc e
    go_enter Try.func13, Try.ntmps13
    go_wp2_with fail
    refine Hc.out.mono ?_
    rintro e w1 ⟨A, n, c, rfl, hS⟩
    go_wp2_with fail
    go_ret
    exact ⟨A, n, c, rfl, hS⟩

theorem refPutLen_any (n : Int) (w : World) (h0 : -9223372036854775808 ≤ n) (h1 : n ≤ 9223372036854775807) :
    Calls Try.prog 14 #[.int .i64 n] w (Wd.Out w .u8 (if n < 0 then [] else Nm.vd n)) := by
  by_cases hn : n < 0
  · rw [if_pos hn]
    go_enter Try.func14, Try.ntmps14
    go_wp2_with fail
    go_ret
    exact ⟨none, 0, 0, rfl, Wd.Sl.none_ _ _, Below.refl _ _⟩
  · rw [if_neg hn]
    have hc := digits_any 9 (n / 2) (n % 2) w (by omega) (by omega) (by omega) (by omega) (by omega) (by rw [Nm.pow10]; omega)
    have e : 2 * (n / 2) + n % 2 = n := by omega
    rw [e] at hc
    have Hc := Lib.hid hc
    have hn' : 0 ≤ n := by omega
    clear hc e hn
    go_enter Try.func14, Try.ntmps14
    go_wp2_with fail
    refine Hc.out.mono ?_
    rintro e w1 ⟨A, n, c, rfl, hS⟩
    go_wp2_with fail
    go_ret
    exact ⟨A, n, c, rfl, hS⟩

set_option maxHeartbeats 400000 in
theorem same_any (A B : Option Addr) (n m c d : Nat) (xs ys : List Int) (w : World) (ha : Wd.Sl w .u8 A n c xs) (hb : Wd.Sl w .u8 B m d ys) :
    Calls Try.prog 12 #[.slice A n c, .slice B m d] w fun e w' => e = .returned (.bool (decide (xs = ys))) ∧ ∃ q, w' = w.drewN q := by
  obtain ⟨rfl, hc, hx, hA, hr⟩ := ha
  obtain ⟨rfl, hd, hy, hB, hs⟩ := hb
  unfold maxLen at hx hy
  by_cases hl : xs.length = ys.length
  · have hne : ((xs.length : Int) != (ys.length : Int)) = false := by rw [hl]; simp
    have Hl := Lib.hid hl
    clear hl
    rcases Nat.eq_zero_or_pos xs.length with h0 | h0
    · have hx0 : xs = [] := List.eq_nil_of_length_eq_zero h0
      have hy0 : ys = [] := List.eq_nil_of_length_eq_zero (by rw [← Hl.out]; exact h0)
      subst hx0
      subst hy0
      go_enter Try.func12, Try.ntmps12
      go_wp2_with fail
      refine wp_loop_rounds 1 ?_
      rw [rounds_succ]
      go_wp2_with fail
      go_ret
      exact ⟨rfl, 0, rfl⟩
    · obtain ⟨a1, o1, rfl, _, hcx⟩ := hr.some_ h0
      obtain ⟨a2, o2, rfl, _, hcy⟩ := hs.some_ (by rw [← Hl.out]; exact h0)
      clear hr hs hA hB
      have hle1 : xs.length ≤ ys.length := by rw [Hl.out]; exact Nat.le_refl _
      have hle2 : ys.length ≤ xs.length := by rw [Hl.out]; exact Nat.le_refl _
      go_enter Try.func12, Try.ntmps12
      go_wp2_with fail
      go_loopw [5] (fun i wr => ∃ (k q : Nat), i = .int .i64 k ∧ k ≤ xs.length ∧ wr = w.drewN q ∧ xs.take k = ys.take k) (fun i _ => xs.length - (intOf i).toNat)
      case atStart => exact ⟨0, 0, rfl, Nat.zero_le _, rfl, rfl⟩
      case round =>
        obtain ⟨k, q, rfl, hk, rfl, ht⟩ := hrel
        have Ht := Lib.hid ht
        clear ht
        by_cases hlt : k < xs.length
        · have hlt2 : k < ys.length := by omega
          have c1 := hcx k hlt
          have c2 := hcy k hlt2
          obtain ⟨x, hx'⟩ : ∃ x, x = xs.getD k 0 := ⟨_, rfl⟩
          obtain ⟨y, hy'⟩ : ∃ y, y = ys.getD k 0 := ⟨_, rfl⟩
          rw [← hx'] at c1
          rw [← hy'] at c2
          have Hx := Lib.hid hx'
          have Hy := Lib.hid hy'
          clear hx' hy' hcx hcy
          have i1 : (k : Int) < (xs.length : Int) := by omega
          have i2 : (k : Int) < (ys.length : Int) := by omega
          by_cases hxy : x = y
          · have hbq : (x != y) = false := by rw [hxy]; simp
            have Hxy := Lib.hid hxy
            clear hxy
            go_wp2_with fail
            go_quiet (fail)
            go_wp2_with fail
            go_roundw
            case rel =>
              refine ⟨k + 1, _, by go_num, by omega, rfl, ?_⟩
              rw [List.take_succ_eq_append_getElem hlt, List.take_succ_eq_append_getElem hlt2, Ht.out]
              have e1 := Hx.out
              have e2 := Hy.out
              simp only [List.getD, List.getElem?_eq_getElem hlt, List.getElem?_eq_getElem hlt2, Option.getD_some] at e1 e2
              rw [← e1, ← e2, Hxy.out]
            case measure => simp [intOf]; omega
          · have hbq : (x != y) = true := by rw [bne_iff_ne]; exact hxy
            have Hxy := Lib.hid hxy
            clear hxy
            go_wp2_with fail
            go_quiet (fail)
            go_wp2_with fail
            go_ret
            refine ⟨?_, _, World.drewN_drewN _ _ _⟩
            rw [decide_eq_false (fun e => Hxy.out (by rw [Hx.out, Hy.out, e]))]
            rfl
        · go_wp2_with fail
          go_ret
          refine ⟨?_, _, rfl⟩
          have := Ht.out
          rw [List.take_of_length_le (by omega), List.take_of_length_le (by omega)] at this
          rw [decide_eq_true this]
          rfl
  · have hne : ((xs.length : Int) != (ys.length : Int)) = true := by rw [bne_iff_ne]; omega
    go_enter Try.func12, Try.ntmps12
    go_wp2_with fail
    go_ret
    refine ⟨?_, 0, rfl⟩
    rw [decide_eq_false (fun e => hl (by rw [e]))]
    rfl
theorem same_yes (A B : Option Addr) (n m c d : Nat) (xs ys : List Int) (w : World) (ha : Wd.Sl w .u8 A n c xs) (hb : Wd.Sl w .u8 B m d ys) (h : xs = ys) :
    Calls Try.prog 12 #[.slice A n c, .slice B m d] w fun e w' => e = .returned (.bool true) ∧ Below w.heap.size w w' :=
  (same_any A B n m c d xs ys w ha hb).mono fun _ _ ⟨he, q, hq⟩ => ⟨by rw [he, decide_eq_true h], by rw [hq]; exact Wd.below_drewN (Below.refl _ _) q⟩
end Nc
end Go.Proofs.Ythbliihjfgmepaa
