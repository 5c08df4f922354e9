/- The examples of chapter 3 hold: the function awake of layer 3's statements answers true. -/
import Derived.Test.YtejhnmahmnbmkaaRunDec
import Derived.Test.YtejhnmahmnbmkaaRefSame
import Derived.Test.YtejhnmahmnbmkaaRefInts
namespace Go.Proofs.Ytejhnmahmnbmkaa
open Go.RowKit
namespace Rc
open Nc

set_option maxRecDepth 100000 in
set_option maxHeartbeats 1000000 in
theorem awake_any (w : World) : Calls Try.prog 9 #[] w fun e w' => e = .returned (.bool true) ∧ Below w.heap.size w w' := by
  have e1 : Rn.enc [7, 7, 7] = [1, 3, 14, 3] := by decide
  have e2 : Rn.enc [5, 6, 7] = [0, 3, 10, 12, 14] := by decide
  have f1 : Rn.Fits [7, 7, 7] := by intro x hx; simp at hx; subst hx; unfold Rn.Fit; omega
  have f2 : Rn.Fits [5, 6, 7] := by intro x hx; simp at hx; unfold Rn.Fit; omega
  have c1 := fun A m c w hS hm => encode_ok A m c [7, 7, 7] w hS hm f1
  have c2 := fun A m c w hS hm => encode_ok A m c [5, 6, 7] w hS hm f2
  have c3 := fun A m c w hS => decode_any A m c [7, 7, 7] [9] w hS (by intro x hx; simp at hx; omega) (by decide) f1
  rw [e1] at c1 c3
  rw [e2] at c2
  have C1 := Lib.hid c1
  have C2 := Lib.hid c2
  have C3 := Lib.hid c3
  clear c1 c2 c3 e1 e2 f1 f2
  go_enter Try.func9, Try.ntmps9
  go_wp2_with fail
  refine (C1.out _ 3 3 _ (Wd.Sl.lit w .i64 [7, 7, 7] _ _ 3 rfl rfl (by decide)) (by omega)).mono ?_
  rintro e w1 ⟨A1, n1, k1, rfl, hS1, hB1⟩
  have hW1 : Below w.heap.size w w1 := ((Below.refl _ _).alloc (Nat.le_refl _) _).trans (hB1.mono (by simp))
  obtain rfl : n1 = 4 := hS1.len
  clear hB1
  go_wp2_with fail
  have hb2 : Below w1.heap.size w1 (w1.alloc (.cells #[.int .i64 5, .int .i64 6, .int .i64 7] 3)) := (Below.refl _ _).alloc (Nat.le_refl _) _
  refine (C2.out _ 3 3 _ (Wd.Sl.lit w1 .i64 [5, 6, 7] _ _ 3 rfl rfl (by decide)) (by omega)).mono ?_
  rintro e w2 ⟨A2, n2, k2, rfl, hS2, hB2⟩
  have hB12 : Below w1.heap.size w1 w2 := hb2.trans (hB2.mono hb2.size)
  have hW2 : Below w.heap.size w w2 := hW1.trans (hB12.mono hW1.size)
  have hS12 := hS1.below hB12
  obtain rfl : n2 = 5 := hS2.len
  clear hb2 hB2 hB12 hS1 hW1
  go_wp2_with fail
  have hb3 : Below w2.heap.size w2 (w2.alloc (.cells #[.int .u8 1, .int .u8 3, .int .u8 14, .int .u8 3, .int .u8 9] 5)) := (Below.refl _ _).alloc (Nat.le_refl _) _
  refine (C3.out _ 5 5 _ (Wd.Sl.lit w2 .u8 [1, 3, 14, 3, 9] _ _ 5 rfl rfl (by decide))).mono ?_
  rintro e w3 ⟨A3, n3, k3, rfl, hS3, hB3⟩
  have hB23 : Below w2.heap.size w2 w3 := hb3.trans (hB3.mono hb3.size)
  have hW3 : Below w.heap.size w w3 := hW2.trans (hB23.mono hW2.size)
  have hS13 := hS12.below hB23
  have hS23 := hS2.below hB23
  clear hb3 hB3 hB23 hS12 hS2 hW2
  go_wp2_with fail
  have hb4 : Below w3.heap.size w3 (w3.alloc (.cells #[.int .u8 1, .int .u8 3, .int .u8 14, .int .u8 3] 5)) := (Below.refl _ _).alloc (Nat.le_refl _) _
  refine (same_yes A1 _ 4 4 k1 4 [1, 3, 14, 3] [1, 3, 14, 3] _ (hS13.below hb4) (Wd.Sl.lit w3 .u8 [1, 3, 14, 3] _ _ 4 rfl rfl (by decide)) rfl).mono ?_
  rintro e w4 ⟨rfl, hB4⟩
  have hB34 : Below w3.heap.size w3 w4 := hb4.trans (hB4.mono hb4.size)
  have hW4 : Below w.heap.size w w4 := hW3.trans (hB34.mono hW3.size)
  have hS24 := hS23.below hB34
  have hS34 := hS3.below hB34
  clear hb4 hB4 hB34 hS13 hS23 hS3 hW3
  go_wp2_with fail
  have hb5 : Below w4.heap.size w4 (w4.alloc (.cells #[.int .u8 0, .int .u8 3, .int .u8 10, .int .u8 12, .int .u8 14] 5)) := (Below.refl _ _).alloc (Nat.le_refl _) _
  refine (same_yes A2 _ 5 5 k2 5 [0, 3, 10, 12, 14] [0, 3, 10, 12, 14] _ (hS24.below hb5) (Wd.Sl.lit w4 .u8 [0, 3, 10, 12, 14] _ _ 5 rfl rfl (by decide)) rfl).mono ?_
  rintro e w5 ⟨rfl, hB5⟩
  have hB45 : Below w4.heap.size w4 w5 := hb5.trans (hB5.mono hb5.size)
  have hW5 : Below w.heap.size w w5 := hW4.trans (hB45.mono hW4.size)
  have hS35 := hS34.below hB45
  clear hb5 hB5 hB45 hS24 hS34 hW4
  go_wp2_with fail
  have hb6 : Below w5.heap.size w5 (w5.alloc (.cells #[.int .i64 7, .int .i64 7, .int .i64 7] 3)) := (Below.refl _ _).alloc (Nat.le_refl _) _
  refine (ints_yes A3 _ n3 3 k3 3 [7, 7, 7] [7, 7, 7] _ (hS35.below hb6) (Wd.Sl.lit w5 .i64 [7, 7, 7] _ _ 3 rfl rfl (by decide)) rfl).mono ?_
  rintro e w6 ⟨rfl, hB6⟩
  have hW6 : Below w.heap.size w w6 := hW5.trans ((hb6.trans (hB6.mono hb6.size)).mono hW5.size)
  clear hb6 hB6 hS35 hW5
  go_wp2_with fail
  go_ret
  exact ⟨rfl, hW6⟩
end Rc
end Go.Proofs.Ytejhnmahmnbmkaa
