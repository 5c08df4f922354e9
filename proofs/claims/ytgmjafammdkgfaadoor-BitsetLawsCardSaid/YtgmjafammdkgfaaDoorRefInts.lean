/- What the comparisons of layer 1's reference do: Same (bytes), Ints (integers). -/
import Derived.Test.YtgmjafammdkgfaaDoorProg
import Derived.Test.YtgmjafammdkgfaaDoorWords
import Derived.WalkKit
import Derived.WalkSpells
import Derived.Lib.Hide
import Derived.Deep.QuietTactic
import Derived.BigQuiet
namespace Go.Proofs.YtgmjafammdkgfaaDoor
open Go.RowKit
namespace Nc

set_option maxHeartbeats 400000 in
theorem ints_any (A B : Option Addr) (n m c d : Nat) (xs ys : List Int) (w : World) (ha : Wd.Sl w .i64 A n c xs) (hb : Wd.Sl w .i64 B m d ys) :
    Calls Tryd.prog 11 #[.slice A n c, .slice B m d] w fun e w' => e = .returned (.bool (decide (xs = ys))) ∧ ∃ q, w' = w.drewN q := by
  obtain ⟨rfl, hc, hx, hA, hr⟩ := ha
  obtain ⟨rfl, hd, hy, hB, hs⟩ := hb
  unfold maxLen at hx hy
  by_cases hl : xs.length = ys.length
  · have hne : ((xs.length : Int) != (ys.length : Int)) = false := by rw [hl]; simp
    have Hl := Lib.hid hl
    clear hl
    rcases Nat.eq_zero_or_pos xs.length with h0 | h0
    · have hx0 : xs = [] := List.eq_nil_of_length_eq_zero h0
      have hy0 : ys = [] := List.eq_nil_of_length_eq_zero (by rw [← Hl.out]; exact h0)
      subst hx0
      subst hy0
      go_enter Tryd.func11, Tryd.ntmps11
      go_wp2_with fail
      refine wp_loop_rounds 1 ?_
      rw [rounds_succ]
      go_wp2_with fail
      go_ret
      exact ⟨rfl, 0, rfl⟩
    · obtain ⟨a1, o1, rfl, _, hcx⟩ := hr.some_ h0
      obtain ⟨a2, o2, rfl, _, hcy⟩ := hs.some_ (by rw [← Hl.out]; exact h0)
      clear hr hs hA hB
      have hle1 : xs.length ≤ ys.length := by rw [Hl.out]; exact Nat.le_refl _
      have hle2 : ys.length ≤ xs.length := by rw [Hl.out]; exact Nat.le_refl _
      go_enter Tryd.func11, Tryd.ntmps11
      go_wp2_with fail
      go_loopw [5] (fun i wr => ∃ (k q : Nat), i = .int .i64 k ∧ k ≤ xs.length ∧ wr = w.drewN q ∧ xs.take k = ys.take k) (fun i _ => xs.length - (intOf i).toNat)
      case atStart => exact ⟨0, 0, rfl, Nat.zero_le _, rfl, rfl⟩
      case round =>
        obtain ⟨k, q, rfl, hk, rfl, ht⟩ := hrel
        have Ht := Lib.hid ht
        clear ht
        by_cases hlt : k < xs.length
        · have hlt2 : k < ys.length := by omega
          have c1 := hcx k hlt
          have c2 := hcy k hlt2
          obtain ⟨x, hx'⟩ : ∃ x, x = xs.getD k 0 := ⟨_, rfl⟩
          obtain ⟨y, hy'⟩ : ∃ y, y = ys.getD k 0 := ⟨_, rfl⟩
          rw [← hx'] at c1
          rw [← hy'] at c2
          have Hx := Lib.hid hx'
          have Hy := Lib.hid hy'
          clear hx' hy' hcx hcy
          have i1 : (k : Int) < (xs.length : Int) := by omega
          have i2 : (k : Int) < (ys.length : Int) := by omega
          by_cases hxy : x = y
          · have hbq : (x != y) = false := by rw [hxy]; simp
            have Hxy := Lib.hid hxy
            clear hxy
            go_wp2_with fail
            go_quiet (fail)
            go_wp2_with fail
            go_roundw
            case rel =>
              refine ⟨k + 1, _, by go_num, by omega, rfl, ?_⟩
              rw [List.take_succ_eq_append_getElem hlt, List.take_succ_eq_append_getElem hlt2, Ht.out]
              have e1 := Hx.out
              have e2 := Hy.out
              simp only [List.getD, List.getElem?_eq_getElem hlt, List.getElem?_eq_getElem hlt2, Option.getD_some] at e1 e2
              rw [← e1, ← e2, Hxy.out]
            case measure => simp [intOf]; omega
          · have hbq : (x != y) = true := by rw [bne_iff_ne]; exact hxy
            have Hxy := Lib.hid hxy
            clear hxy
            go_wp2_with fail
            go_quiet (fail)
            go_wp2_with fail
            go_ret
            refine ⟨?_, _, World.drewN_drewN _ _ _⟩
            rw [decide_eq_false (fun e => Hxy.out (by rw [Hx.out, Hy.out, e]))]
            rfl
        · go_wp2_with fail
          go_ret
          refine ⟨?_, _, rfl⟩
          have := Ht.out
          rw [List.take_of_length_le (by omega), List.take_of_length_le (by omega)] at this
          rw [decide_eq_true this]
          rfl
  · have hne : ((xs.length : Int) != (ys.length : Int)) = true := by rw [bne_iff_ne]; omega
    go_enter Tryd.func11, Tryd.ntmps11
    go_wp2_with fail
    go_ret
    refine ⟨?_, 0, rfl⟩
    rw [decide_eq_false (fun e => hl (by rw [e]))]
    rfl
theorem ints_yes (A B : Option Addr) (n m c d : Nat) (xs ys : List Int) (w : World) (ha : Wd.Sl w .i64 A n c xs) (hb : Wd.Sl w .i64 B m d ys) (h : xs = ys) :
    Calls Tryd.prog 11 #[.slice A n c, .slice B m d] w fun e w' => e = .returned (.bool true) ∧ Below w.heap.size w w' :=
  (ints_any A B n m c d xs ys w ha hb).mono fun _ _ ⟨he, q, hq⟩ => ⟨by rw [he, decide_eq_true h], by rw [hq]; exact Wd.below_drewN (Below.refl _ _) q⟩
end Nc
end Go.Proofs.YtgmjafammdkgfaaDoor
