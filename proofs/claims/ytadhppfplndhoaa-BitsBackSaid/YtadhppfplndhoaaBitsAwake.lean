/- The example of chapter 2 holds: the function awake of layer 2's statements answers true. -/
import Derived.Test.YtadhppfplndhoaaBitsPack
import Derived.Test.YtadhppfplndhoaaRefSame
import Derived.Test.YtadhppfplndhoaaRefInts
namespace Go.Proofs.Ytadhppfplndhoaa
open Go.RowKit
namespace Bc
open Nc
theorem wid8 : wid 8 = 4 := by
  rw [wid_hi _ (by omega), wid_hi _ (by omega), wid_hi _ (by omega), wid_hi _ (by omega), wid_lo _ (by omega)]

set_option maxHeartbeats 800000 in
theorem awake_any (w : World) : Calls Try.prog 9 #[] w fun e w' => e = .returned (.bool true) ∧ Below w.heap.size w w' := by
  have e1 : packL [1, 2, 3] 3 = [209, 0] := by decide
  have e2 : packE [1, 2, 3] 3 = 0 := by decide
  have e3 : unL [209, 0] 3 3 = [1, 2, 3] := by decide
  have e4 : unE [209, 0] 3 3 = 0 := by decide
  have e5 : atV [209, 0] 2 3 = 3 := by decide
  have c1 := fun A m c w hS => pack_any A m c 3 [1, 2, 3] w hS
  have c2 := fun A m c w hS => unpack_any A m c 3 3 [209, 0] w hS (by intro x hx; simp at hx; rcases hx with rfl | rfl <;> decide)
  have c3 := fun A m c w hS hm => at_any A m c 2 3 [209, 0] w hS (by intro x hx; simp at hx; rcases hx with rfl | rfl <;> decide) hm (by omega) (by omega)
  have c4 := fun w => Width_any 8 w (by omega) (by omega)
  rw [e1, e2] at c1
  rw [e3, e4] at c2
  rw [e5] at c3
  rw [wid8] at c4
  have C1 := Lib.hid c1
  have C2 := Lib.hid c2
  have C3 := Lib.hid c3
  have C4 := Lib.hid c4
  clear c1 c2 c3 c4 e1 e2 e3 e4 e5
  go_enter Try.func9, Try.ntmps9
  go_wp2_with fail
  refine (C1.out _ 3 3 _ (Wd.Sl.lit w .i64 [1, 2, 3] _ _ 3 rfl rfl (by decide))).mono ?_
  rintro e w1 ⟨A1, n1, k1, rfl, hS1, hB1⟩
  have hW1 : Below w.heap.size w w1 := ((Below.refl _ _).alloc (Nat.le_refl _) _).trans (hB1.mono (by simp))

  obtain rfl : n1 = 2 := hS1.len
  clear hB1
  go_wp2_with fail
  refine (C2.out A1 2 k1 w1 hS1 (by omega)).mono ?_
  rintro e w2 ⟨A2, n2, k2, rfl, hS2, hB2⟩
  have hW2 : Below w.heap.size w w2 := hW1.trans (hB2.mono hW1.size)
  have hS12 := hS1.below hB2
  clear hB2 hW1 hS1
  go_wp2_with fail
  have hb3 : Below w2.heap.size w2 (w2.alloc (.cells #[.int .u8 209, .int .u8 0] 5)) := (Below.refl _ _).alloc (Nat.le_refl _) _
  refine (same_yes A1 _ 2 2 k1 2 [209, 0] [209, 0] _ (hS12.below hb3) (Wd.Sl.lit w2 .u8 [209, 0] _ _ 2 rfl rfl (by decide)) rfl).mono ?_
  rintro e w3 ⟨rfl, hB3⟩
  have hB23 : Below w2.heap.size w2 w3 := hb3.trans (hB3.mono hb3.size)
  have hW3 : Below w.heap.size w w3 := hW2.trans (hB23.mono hW2.size)
  have hS13 := hS12.below hB23
  have hS23 := hS2.below hB23
  clear hb3 hB3 hB23 hW2 hS12 hS2
  go_wp2_with fail
  have hb4 : Below w3.heap.size w3 (w3.alloc (.cells #[.int .i64 1, .int .i64 2, .int .i64 3] 3)) := (Below.refl _ _).alloc (Nat.le_refl _) _
  refine (ints_yes A2 _ n2 3 k2 3 [1, 2, 3] [1, 2, 3] _ (hS23.below hb4) (Wd.Sl.lit w3 .i64 [1, 2, 3] _ _ 3 rfl rfl (by decide)) rfl).mono ?_
  rintro e w4 ⟨rfl, hB4⟩
  have hB34 : Below w3.heap.size w3 w4 := hb4.trans (hB4.mono hb4.size)
  have hW4 : Below w.heap.size w w4 := hW3.trans (hB34.mono hW3.size)
  have hS14 := hS13.below hB34
  clear hb4 hB4 hB34 hW3 hS13 hS23
  go_wp2_with fail
  refine (C3.out A1 2 k1 w4 hS14 (by omega)).mono ?_
  rintro e w5 ⟨rfl, hB5⟩
  have hW5 : Below w.heap.size w w5 := hW4.trans (hB5.mono hW4.size)
  clear hB5 hW4 hS14
  go_wp2_with fail
  refine (C4.out w5).mono ?_
  rintro e w6 ⟨rfl, rfl⟩
  go_wp2_with fail
  go_ret
  exact ⟨rfl, hW5⟩
end Bc
end Go.Proofs.Ytadhppfplndhoaa
