/- The walk of the statement FrameReads of layer 4. -/
import Derived.Test.YtahocgmaeokoaaaFrAwake
import Derived.Test.YtahocgmaeokoaaaFrRefB
import Derived.Test.YtahocgmaeokoaaaFrRefC
import Derived.Test.YtahocgmaeokoaaaNumRead
namespace Go.Proofs.Ytahocgmaeokoaaa
open Go.RowKit
namespace Lw
open Fc Nc

set_option maxRecDepth 100000 in
set_option maxHeartbeats 1000000 in
theorem frameReads_any (A : Option Addr) (m c : Nat) (b : List Int) (w : World) (hS : Wd.Sl w .u8 A m c b) (fB : Wd.Fits .u8 b) :
    Calls Try.prog 4 #[.slice A m c] w fun e w' => e = .returned (.bool true) ∧ Below w.heap.size w w' := by
  have hmx := hS.max
  have hc := hS.cap
  unfold maxLen at hmx
  have hB := byt_of fB
  by_cases h1 : m ≤ 2000
  · have C1 := Lib.hid fun w' hb => read_any A m c b w' (hS.below hb) (by omega) hB
    have C2 := Lib.hid fun w' hb => refRead_any A m c b w' (hS.below hb) hB (by omega)
    generalize Fr.rd b = R at *
    obtain ⟨ps, k⟩ := R
    have hkk : ((k : Int) == (k : Int)) = true := by simp
    clear hS fB hB
    go_enter Try.func4, Try.ntmps4
    go_wp2_with fail
    refine (awake_any w).mono ?_
    rintro e w1 ⟨rfl, hb1⟩
    go_wp2_with fail
    refine (C1.out w1 hb1).mono ?_
    rintro e w2 ⟨A2, n2, c2, rfl, hS2, hb2⟩
    have hW2 : Below w.heap.size w w2 := hb1.trans (hb2.mono hb1.size)
    clear hb1 hb2 C1
    go_wp2_with fail
    refine (C2.out w2 hW2).mono ?_
    rintro e w3 ⟨A3, n3, c3, rfl, hS3, hb3⟩
    have hW3 : Below w.heap.size w w3 := hW2.trans (hb3.mono hW2.size)
    have hS23 := hS2.below hb3
    clear hW2 hb3 C2 hS2
    go_wp2_with fail
    have Cl := lists_any A2 A3 n2 n3 c2 c3 ps ps w3 hS23 hS3
    rw [decide_eq_true rfl] at Cl
    refine Cl.mono ?_
    rintro e w4 ⟨rfl, hb4⟩
    have hW4 : Below w.heap.size w w4 := hW3.trans (hb4.mono hW3.size)
    clear Cl hW3 hb4 hS23 hS3
    go_wp2_with fail
    go_ret
    exact ⟨rfl, hW4⟩
  · have h1' : (2000 : Int) < (m : Int) := by omega
    clear hS fB hB
    go_enter Try.func4, Try.ntmps4
    go_wp2_with fail
    refine (awake_any w).mono ?_
    rintro e w1 ⟨rfl, hb1⟩
    go_wp2_with fail
    go_ret
    exact ⟨rfl, hb1⟩
end Lw
end Go.Proofs.Ytahocgmaeokoaaa
