/- The walks of the statements BitsPacks and BitsUnpacks of layer 2. -/
import Derived.Test.YtadhppfplndhoaaBitsAwake
import Derived.Test.YtadhppfplndhoaaBitsRefPk
namespace Go.Proofs.Ytadhppfplndhoaa
open Go.RowKit
namespace Lw
open Bc Nc

set_option maxHeartbeats 1000000 in
theorem bitsPacks_walk (A : Option Addr) (m c : Nat) (l : List Int) (wd most : Int) (w : World) (hS : Wd.Sl w .i64 A m c l) (hF : Wd.Fits .i64 l) (_w1 : -9223372036854775808 ≤ wd) (_w2 : wd ≤ 9223372036854775807) (m1 : -9223372036854775808 ≤ most) (m2 : most ≤ 9223372036854775807) :
    Calls Try.prog 3 #[.slice A m c, .int .i64 wd, .int .i64 most] w fun e w' => e = .returned (.bool true) ∧ Below w.heap.size w w' := by
  have hcap := hS.cap
  have hmax := hS.max
  unfold maxLen at hmax
  have c1 := fun w hS => pack_any A m c wd l w hS
  have c2 := fun w hS => refPack_any A m c wd l w hS hF
  have c3 := fun w => Width_any most w m1 m2
  have c4 := fun w => refWidth_any most w m1 m2
  generalize packL l wd = ys at *
  generalize packE l wd = er at *
  generalize wid most = q at *
  have C1 := Lib.hid c1
  have C2 := Lib.hid c2
  have C3 := Lib.hid c3
  have C4 := Lib.hid c4
  clear c1 c2 c3 c4
  by_cases hl : 5000 < m
  · go_enter Try.func3, Try.ntmps3
    go_wp2_with fail
    refine (awake_any w).mono ?_
    rintro e w1 ⟨rfl, hB⟩
    go_wp2_with fail
    go_ret
    exact ⟨rfl, hB⟩
  · go_enter Try.func3, Try.ntmps3
    go_wp2_with fail
    refine (awake_any w).mono ?_
    rintro e w1 ⟨rfl, hB⟩
    have hS1 := hS.below hB
    clear hS
    go_wp2_with fail
    refine (C1.out w1 hS1).mono ?_
    rintro e w2 ⟨A2, n2, k2, rfl, hS2, hB2⟩
    have hW2 : Below w.heap.size w w2 := hB.trans (hB2.mono hB.size)
    have hS12 := hS1.below hB2
    clear hB hS1 hB2
    go_wp2_with fail
    refine (C2.out w2 hS12).mono ?_
    rintro e w3 ⟨A3, n3, k3, rfl, hS3, hB3⟩
    have hW3 : Below w.heap.size w w3 := hW2.trans (hB3.mono hW2.size)
    have hS23 := hS2.below hB3
    clear hW2 hS12 hB3 hS2
    go_wp2_with fail
    refine (same_yes A2 A3 n2 n3 k2 k3 ys ys w3 hS23 hS3 rfl).mono ?_
    rintro e w4 ⟨rfl, hB4⟩
    have hW4 : Below w.heap.size w w4 := hW3.trans (hB4.mono hW3.size)
    clear hW3 hS23 hS3 hB4
    go_wp2_with fail
    refine (C3.out w4).mono ?_
    rintro e w5 ⟨rfl, rfl⟩
    go_wp2_with fail
    refine (C4.out w4).mono ?_
    rintro e w5 ⟨rfl, rfl⟩
    go_wp2_with fail
    go_ret
    exact ⟨rfl, hW4⟩

theorem byt_of {bs : List Int} (h : Wd.Fits .u8 bs) : Bt.InR 8 bs := fun x hx => by
  have := h x hx
  simp [Lit.wf, IntKind.min, IntKind.max, IntKind.signed, IntKind.bits] at this
  rw [show (2 : Int) ^ 8 = 256 by decide]
  omega

set_option maxHeartbeats 1000000 in
theorem bitsUnpacks_walk (A : Option Addr) (m c : Nat) (bs : List Int) (n wd i : Int) (w : World) (hS : Wd.Sl w .u8 A m c bs) (hF : Wd.Fits .u8 bs) (_n1 : -9223372036854775808 ≤ n) (_n2 : n ≤ 9223372036854775807) (_w1 : -9223372036854775808 ≤ wd) (_w2 : wd ≤ 9223372036854775807) (i1 : -9223372036854775808 ≤ i) (i2 : i ≤ 9223372036854775807) :
    Calls Try.prog 4 #[.slice A m c, .int .i64 n, .int .i64 wd, .int .i64 i] w fun e w' => e = .returned (.bool true) ∧ Below w.heap.size w w' := by
  have hcap := hS.cap
  have hmax := hS.max
  have hB := byt_of hF
  unfold maxLen at hmax
  have c1 := fun w hS hm => unpack_any A m c n wd bs w hS hB hm
  have c2 := fun w hS hm => refUn_any A m c n wd bs w hS hB hm
  have c3 := fun w hS hm => at_any A m c i wd bs w hS hB hm i1 i2
  have c4 := fun w hS hm => refAt_any A m c i wd bs w hS hB hm i1 i2
  generalize unL bs n wd = ys at *
  generalize unE bs n wd = er at *
  generalize atV bs i wd = q at *
  have C1 := Lib.hid c1
  have C2 := Lib.hid c2
  have C3 := Lib.hid c3
  have C4 := Lib.hid c4
  clear c1 c2 c3 c4 hB
  by_cases hl : 600 < m
  · go_enter Try.func4, Try.ntmps4
    go_wp2_with fail
    refine (awake_any w).mono ?_
    rintro e w1 ⟨rfl, hB⟩
    go_wp2_with fail
    go_ret
    exact ⟨rfl, hB⟩
  · have hm : m ≤ 1000000 := by omega
    go_enter Try.func4, Try.ntmps4
    go_wp2_with fail
    refine (awake_any w).mono ?_
    rintro e w1 ⟨rfl, hB⟩
    have hS1 := hS.below hB
    clear hS
    go_wp2_with fail
    refine (C1.out w1 hS1 hm).mono ?_
    rintro e w2 ⟨A2, n2, k2, rfl, hS2, hB2⟩
    have hW2 : Below w.heap.size w w2 := hB.trans (hB2.mono hB.size)
    have hS12 := hS1.below hB2
    clear hB hS1 hB2
    go_wp2_with fail
    refine (C2.out w2 hS12 hm).mono ?_
    rintro e w3 ⟨A3, n3, k3, rfl, hS3, hB3⟩
    have hW3 : Below w.heap.size w w3 := hW2.trans (hB3.mono hW2.size)
    have hS23 := hS2.below hB3
    have hS13 := hS12.below hB3
    clear hW2 hS12 hB3 hS2
    go_wp2_with fail
    refine (ints_yes A2 A3 n2 n3 k2 k3 ys ys w3 hS23 hS3 rfl).mono ?_
    rintro e w4 ⟨rfl, hB4⟩
    have hW4 : Below w.heap.size w w4 := hW3.trans (hB4.mono hW3.size)
    have hS14 := hS13.below hB4
    clear hW3 hS23 hS3 hB4 hS13
    go_wp2_with fail
    refine (C3.out w4 hS14 hm).mono ?_
    rintro e w5 ⟨rfl, hB5⟩
    have hW5 : Below w.heap.size w w5 := hW4.trans (hB5.mono hW4.size)
    have hS15 := hS14.below hB5
    clear hW4 hS14 hB5
    go_wp2_with fail
    refine (C4.out w5 hS15 hm).mono ?_
    rintro e w6 ⟨rfl, hB6⟩
    have hW6 : Below w.heap.size w w6 := hW5.trans (hB6.mono hW5.size)
    clear hW5 hS15 hB6
    go_wp2_with fail
    go_ret
    exact ⟨rfl, hW6⟩
end Lw
end Go.Proofs.Ytadhppfplndhoaa
