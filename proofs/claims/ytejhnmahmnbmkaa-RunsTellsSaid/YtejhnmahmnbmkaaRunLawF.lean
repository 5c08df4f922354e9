/- The walk of the statement RunsTells of layer 3. -/
import Derived.Test.YtejhnmahmnbmkaaRunAwake
import Derived.Test.YtejhnmahmnbmkaaRunRefB
import Derived.Test.YtejhnmahmnbmkaaRunFlat
namespace Go.Proofs.Ytejhnmahmnbmkaa
open Go.RowKit
namespace Lw
open Rc Nc

set_option maxRecDepth 100000 in
set_option maxHeartbeats 4000000 in
theorem runsTells_ok (A : Option Addr) (m c : Nat) (l : List Int) (B : Option Addr) (n d : Nat) (r : Rn.Rs) (w : World) (hS : Wd.Sl w .i64 A m c l) (hF : Rn.Fits l) (hT : Wd.Sr w B n d r) (hm : m ≤ 600) (hn : n ≤ 600) :
    Calls Try.prog 3 #[.slice A m c, .slice B n d] w fun e w' => e = .returned (.bool true) ∧ Below w.heap.size w w' := by
  have hcap := hS.cap
  have hcap2 := hT.cap
  have c1 := fun w hS => runs_any A m c l w hS (by omega) hF
  have c2 := fun w hS => refRuns_any A m c l w hS (by omega)
  have c3 := fun w hT => flat_any B n d r w hT (by omega)
  have c4 := fun w hT => refFlat_any B n d r w hT (by omega)
  have c5 := fun w hS => deltas_any A m c l w hS (by omega)
  have c6 := fun w hS => refDeltas_any A m c l w hS (by omega) hF
  have c7 := fun w hS => sums_any A m c l w hS (by omega)
  have c8 := fun w hS => refSums_any A m c l w hS (by omega)
  generalize Rn.runs l = rs at *
  generalize Rn.flL r = fl at *
  generalize Rn.flE 0 r = fe at *
  generalize Rn.deltas l = dl at *
  generalize Rn.sums l = sl at *
  have C1 := Lib.hid c1
  have C2 := Lib.hid c2
  have C3 := Lib.hid c3
  have C4 := Lib.hid c4
  have C5 := Lib.hid c5
  have C6 := Lib.hid c6
  have C7 := Lib.hid c7
  have C8 := Lib.hid c8
  have hq : (fe == fe) = true := by simp
  clear c1 c2 c3 c4 c5 c6 c7 c8 hF
  go_enter Try.func3, Try.ntmps3
  go_wp2_with fail
  refine (awake_any w).mono ?_
  rintro e w1 ⟨rfl, hW1⟩
  have hS1 := hS.below hW1
  have hT1 := hT.below hW1
  clear hS hT
  go_wp2_with fail
  refine (C1.out w1 hS1).mono ?_
  rintro e w2 ⟨A2, n2, k2, rfl, hX, hB⟩
  have hW2 : Below w.heap.size w w2 := hW1.trans (hB.mono hW1.size)
  have hS2 := hS1.below hB
  have hT2 := hT1.below hB
  clear hS1 hT1 hW1 hB C1
  go_wp2_with fail
  refine (C2.out w2 hS2).mono ?_
  rintro e w3 ⟨A3, n3, k3, rfl, hY, hB⟩
  have hW3 : Below w.heap.size w w3 := hW2.trans (hB.mono hW2.size)
  have hS3 := hS2.below hB
  have hT3 := hT2.below hB
  have hX3 := hX.below hB
  clear hS2 hT2 hW2 hB C2 hX
  go_wp2_with fail
  refine (refSame_yes A2 A3 n2 n3 k2 k3 rs rs w3 hX3 hY rfl).mono ?_
  rintro e w4 ⟨rfl, hB⟩
  have hW4 : Below w.heap.size w w4 := hW3.trans (hB.mono hW3.size)
  have hS4 := hS3.below hB
  have hT4 := hT3.below hB
  clear hS3 hT3 hW3 hB hX3 hY
  go_wp2_with fail
  refine (C3.out w4 hT4).mono ?_
  rintro e w5 ⟨A5, n5, k5, rfl, hX, hB⟩
  have hW5 : Below w.heap.size w w5 := hW4.trans (hB.mono hW4.size)
  have hS5 := hS4.below hB
  have hT5 := hT4.below hB
  clear hS4 hT4 hW4 hB C3
  go_wp2_with fail
  refine (C4.out w5 hT5).mono ?_
  rintro e w6 ⟨A6, n6, k6, rfl, hY, hB⟩
  have hW6 : Below w.heap.size w w6 := hW5.trans (hB.mono hW5.size)
  have hS6 := hS5.below hB
  have hX6 := hX.below hB
  clear hS5 hT5 hW5 hB C4 hX
  go_wp2_with fail
  refine (ints_yes A5 A6 n5 n6 k5 k6 fl fl w6 hX6 hY rfl).mono ?_
  rintro e w7 ⟨rfl, hB⟩
  have hW7 : Below w.heap.size w w7 := hW6.trans (hB.mono hW6.size)
  have hS7 := hS6.below hB
  clear hS6 hW6 hB hX6 hY
  go_wp2_with fail
  refine (C5.out w7 hS7).mono ?_
  rintro e w8 ⟨A8, n8, k8, rfl, hX, hB⟩
  have hW8 : Below w.heap.size w w8 := hW7.trans (hB.mono hW7.size)
  have hS8 := hS7.below hB
  clear hS7 hW7 hB C5
  go_wp2_with fail
  refine (C6.out w8 hS8).mono ?_
  rintro e w9 ⟨A9, n9, k9, rfl, hY, hB⟩
  have hW9 : Below w.heap.size w w9 := hW8.trans (hB.mono hW8.size)
  have hS9 := hS8.below hB
  have hX9 := hX.below hB
  clear hS8 hW8 hB C6 hX
  go_wp2_with fail
  refine (ints_yes A8 A9 n8 n9 k8 k9 dl dl w9 hX9 hY rfl).mono ?_
  rintro e w10 ⟨rfl, hB⟩
  have hW10 : Below w.heap.size w w10 := hW9.trans (hB.mono hW9.size)
  have hS10 := hS9.below hB
  clear hS9 hW9 hB hX9 hY
  go_wp2_with fail
  refine (C7.out w10 hS10).mono ?_
  rintro e w11 ⟨A11, n11, k11, rfl, hX, hB⟩
  have hW11 : Below w.heap.size w w11 := hW10.trans (hB.mono hW10.size)
  have hS11 := hS10.below hB
  clear hS10 hW10 hB C7
  go_wp2_with fail
  refine (C8.out w11 hS11).mono ?_
  rintro e w12 ⟨A12, n12, k12, rfl, hY, hB⟩
  have hW12 : Below w.heap.size w w12 := hW11.trans (hB.mono hW11.size)
  have hX12 := hX.below hB
  clear hS11 hW11 hB C8 hX
  go_wp2_with fail
  refine (ints_yes A11 A12 n11 n12 k11 k12 sl sl w12 hX12 hY rfl).mono ?_
  rintro e w13 ⟨rfl, hB⟩
  have hW13 : Below w.heap.size w w13 := hW12.trans (hB.mono hW12.size)
  clear hW12 hB hX12 hY
  go_wp2_with fail
  go_ret
  exact ⟨rfl, hW13⟩

theorem runsTells_walk (A : Option Addr) (m c : Nat) (l : List Int) (B : Option Addr) (n d : Nat) (r : Rn.Rs) (w : World) (hS : Wd.Sl w .i64 A m c l) (hF : Wd.Fits .i64 l) (hT : Wd.Sr w B n d r) :
    Calls Try.prog 3 #[.slice A m c, .slice B n d] w fun e w' => e = .returned (.bool true) ∧ Below w.heap.size w w' := by
  have hcap := hS.cap
  have hmax := hS.max
  have hcap2 := hT.cap
  have hmax2 := hT.max
  unfold maxLen at hmax hmax2
  rcases (show 600 < m ∨ (m ≤ 600 ∧ 600 < n) ∨ (m ≤ 600 ∧ n ≤ 600) by omega) with h | ⟨h, h2⟩ | ⟨h, h2⟩
  · go_enter Try.func3, Try.ntmps3
    go_wp2_with fail
    refine (awake_any w).mono ?_
    rintro e w1 ⟨rfl, hB⟩
    go_wp2_with fail
    go_ret
    exact ⟨rfl, hB⟩
  · go_enter Try.func3, Try.ntmps3
    go_wp2_with fail
    refine (awake_any w).mono ?_
    rintro e w1 ⟨rfl, hB⟩
    go_wp2_with fail
    go_ret
    exact ⟨rfl, hB⟩
  · exact runsTells_ok A m c l B n d r w hS (Wd.fits_of hF) hT h h2
end Lw
end Go.Proofs.Ytejhnmahmnbmkaa
