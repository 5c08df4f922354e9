/- The walk of the statement FrameSeals of layer 4. -/
import Derived.Test.YtahocgmaeokoaaaFrAwake
import Derived.Test.YtahocgmaeokoaaaFrRefA
import Derived.Test.YtahocgmaeokoaaaNumRead
namespace Go.Proofs.Ytahocgmaeokoaaa
open Go.RowKit
namespace Lw
open Fc Nc

theorem nextB' {a x y : World} (h : Below a.heap.size a x) (k : Below x.heap.size x y) : Below a.heap.size a y := h.trans (k.mono h.size)

set_option maxRecDepth 100000 in
set_option maxHeartbeats 2000000 in
theorem seals_ok (A : Option Addr) (m c : Nat) (b : List Int) (n : Nat) (w : World) (hS : Wd.Sl w .u8 A m c b) (hB : Nm.Byt b) (hm : m ≤ 2000) (hn : n ≤ 70000) :
    Calls Try.prog 3 #[.slice A m c, .int .i64 (n : Int)] w fun e w' => e = .returned (.bool true) ∧ Below w.heap.size w w' := by
  obtain ⟨i0, hi, hz0, hz1, hz2⟩ := info_parts info_u8
  have C1 := Lib.hid fun w' hb => Seal_any A m c b w' (hS.below hb) hB (by omega)
  have C2 := Lib.hid fun w' hb => refSeal_own A m c b w' (hS.below hb) hB (by omega)
  have C3 := Lib.hid fun w' hb => Sum_any A m c b w' (hS.below hb) hB
  have C4 := Lib.hid fun w' hb => refSum_any A m c b w' (hS.below hb) hB
  have hsl := Fr.sum_lt b
  have hbz : Nm.Byt (List.replicate n 0) := fun x hx => by rw [List.eq_of_mem_replicate hx]; omega
  have C5 := Lib.hid fun E w' hS hn => Seal_any E n n (List.replicate n 0) w' hS hbz hn
  generalize Fr.frame b = fs at *
  generalize Fr.sum b = s at *
  clear hS hB hbz
  go_enter Try.func3, Try.ntmps3
  go_wp2_with fail
  refine (awake_any w).mono ?_
  rintro e w1 ⟨rfl, hb1⟩
  go_wp2_with fail
  refine (C1.out w1 hb1).mono ?_
  rintro e w2 ⟨A2, n2, c2, rfl, hS2, hb2⟩
  have hW2 := nextB' hb1 hb2
  clear hb1 hb2 C1
  go_wp2_with fail
  refine (C2.out w2 hW2).mono ?_
  rintro e w3 ⟨A3, n3, c3, rfl, hS3, hb3⟩
  have hW3 := nextB' hW2 hb3
  have hS23 := hS2.below hb3
  clear hW2 hb3 C2 hS2
  go_wp2_with fail
  refine (same_yes A2 A3 n2 n3 c2 c3 fs fs w3 hS23 hS3 rfl).mono ?_
  rintro e w4 ⟨rfl, hb4⟩
  have hW4 := nextB' hW3 hb4
  clear hW3 hb4 hS23 hS3
  go_wp2_with (at_make; refine wpList_make_full _ rfl (.tmp 45) (.tmp 45) 22 rfl w4.heap.size 5 i0 _ 1 Try.underlying22 hi hz0 hz1 .i64 .i64 n n n rfl rfl rfl rfl (by rw [hz2]; omega) (by unfold maxLen; omega) (Nat.le_refl _) ?_; intro w5 hown hgrow)
  have hb5 : Below w4.heap.size w4 w5 := (Below.refl _ _).grown hgrow (Nat.le_refl _) (by simp)
  rw [Wd.made_zero] at hown
  have hSz : Wd.Sl w5 .u8 (some ⟨w4.heap.size, 0, none⟩) n n (List.replicate n 0) := (Wd.Row.of_own hown).1.sl n (by simp) (by unfold maxLen; omega)
  have hW5 := nextB' hW4 hb5
  clear hown hgrow hW4 hb5
  have hss : ((s : Int) == (s : Int)) = true := by simp
  rcases Nat.lt_or_ge 65536 n with q | q
  · have q' : (65536 : Int) < (n : Int) := by omega
    refine (Seal_long _ n n w5 q).mono ?_
    rintro e w6 ⟨rfl, rfl⟩
    go_wp2_with fail
    refine (C3.out w5 hW5).mono ?_
    rintro e w6 ⟨rfl, hb6⟩
    have hW6 := nextB' hW5 hb6
    go_wp2_with fail
    refine (C4.out w6 hW6).mono ?_
    rintro e w7 ⟨rfl, rfl⟩
    go_wp2_with fail
    go_ret
    exact ⟨rfl, hW6⟩
  · have q' : (n : Int) ≤ 65536 := by omega
    refine (C5.out _ w5 hSz q).mono ?_
    rintro e w6 ⟨A6, n6, c6, rfl, hS6, hb6⟩
    have hW6 := nextB' hW5 hb6
    clear hW5 hb6 hS6 hSz
    go_wp2_with fail
    refine (C3.out w6 hW6).mono ?_
    rintro e w7 ⟨rfl, hb7⟩
    have hW7 := nextB' hW6 hb7
    go_wp2_with fail
    refine (C4.out w7 hW7).mono ?_
    rintro e w8 ⟨rfl, rfl⟩
    go_wp2_with fail
    go_ret
    exact ⟨Wd.yes (b := !decide (65536 < (n : Int))) (by rw [decide_eq_false (by omega)]; rfl), hW7⟩

theorem frameSeals_any (A : Option Addr) (m c : Nat) (b : List Int) (n : Int) (w : World) (hS : Wd.Sl w .u8 A m c b) (fB : Wd.Fits .u8 b) (n0 : -9223372036854775808 ≤ n) (n1 : n ≤ 9223372036854775807) :
    Calls Try.prog 3 #[.slice A m c, .int .i64 n] w fun e w' => e = .returned (.bool true) ∧ Below w.heap.size w w' := by
  have hmx := hS.max
  have hc := hS.cap
  unfold maxLen at hmx
  by_cases h1 : m ≤ 2000
  · by_cases h2 : n < 0
    · clear hS fB
      go_enter Try.func3, Try.ntmps3
      go_wp2_with fail
      refine (awake_any w).mono ?_
      rintro e w1 ⟨rfl, hb1⟩
      go_wp2_with fail
      go_ret
      exact ⟨rfl, hb1⟩
    · by_cases h3 : 70000 < n
      · clear hS fB
        go_enter Try.func3, Try.ntmps3
        go_wp2_with fail
        refine (awake_any w).mono ?_
        rintro e w1 ⟨rfl, hb1⟩
        go_wp2_with fail
        go_ret
        exact ⟨rfl, hb1⟩
      · obtain ⟨k, rfl⟩ := Int.eq_ofNat_of_zero_le (show 0 ≤ n by omega)
        exact seals_ok A m c b k w hS (byt_of fB) h1 (by omega)
  · have h1' : (2000 : Int) < (m : Int) := by omega
    clear hS fB
    go_enter Try.func3, Try.ntmps3
    go_wp2_with fail
    refine (awake_any w).mono ?_
    rintro e w1 ⟨rfl, hb1⟩
    go_wp2_with fail
    go_ret
    exact ⟨rfl, hb1⟩
end Lw
end Go.Proofs.Ytahocgmaeokoaaa
