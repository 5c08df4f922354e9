/- The walk of the statement RunsEncodes of layer 3. -/
import Derived.Test.YtejhnmahmnbmkaaRunAwake
import Derived.Test.YtejhnmahmnbmkaaRunRefD
namespace Go.Proofs.Ytejhnmahmnbmkaa
open Go.RowKit
namespace Lw
open Rc Nc

set_option maxHeartbeats 1000000 in
theorem runsEncodes_some (A : Option Addr) (m c : Nat) (l : List Int) (bs : List Int) (er : Int) (w : World) (hS : Wd.Sl w .i64 A m c l) (hm : m ≤ 5000)
    (c1 : ∀ w, Wd.Sl w .i64 A m c l → Calls Try.prog 20 #[.slice A m c] w (Wd.Out2 w .u8 bs er))
    (c2 : ∀ w, Wd.Sl w .i64 A m c l → Calls Try.prog 21 #[.slice A m c] w (Wd.Out2 w .u8 bs er)) :
    Calls Try.prog 4 #[.slice A m c] w fun e w' => e = .returned (.bool true) ∧ Below w.heap.size w w' := by
  have C1 := Lib.hid c1
  have C2 := Lib.hid c2
  have hcap := hS.cap
  have hq : (er == er) = true := by simp
  clear c1 c2
  go_enter Try.func4, Try.ntmps4
  go_wp2_with fail
  refine (awake_any w).mono ?_
  rintro e w1 ⟨rfl, hB⟩
  have hS1 := hS.below hB
  clear hS
  go_wp2_with fail
  refine (C1.out w1 hS1).mono ?_
  rintro e w2 ⟨A2, n2, k2, rfl, hS2, hB2⟩
  have hW2 : Below w.heap.size w w2 := hB.trans (hB2.mono hB.size)
  have hS12 := hS1.below hB2
  clear hB hS1 hB2
  go_wp2_with fail
  refine (C2.out w2 hS12).mono ?_
  rintro e w3 ⟨A3, n3, k3, rfl, hS3, hB3⟩
  have hW3 : Below w.heap.size w w3 := hW2.trans (hB3.mono hW2.size)
  have hS23 := hS2.below hB3
  clear hW2 hS12 hS2 hB3
  go_wp2_with fail
  refine (same_yes A2 A3 n2 n3 k2 k3 bs bs w3 hS23 hS3 rfl).mono ?_
  rintro e w4 ⟨rfl, hB4⟩
  go_wp2_with fail
  go_ret
  exact ⟨rfl, hW3.trans (hB4.mono hW3.size)⟩

theorem runsEncodes_walk (A : Option Addr) (m c : Nat) (l : List Int) (w : World) (hS : Wd.Sl w .i64 A m c l) (hF : Wd.Fits .i64 l) :
    Calls Try.prog 4 #[.slice A m c] w fun e w' => e = .returned (.bool true) ∧ Below w.heap.size w w' := by
  have hcap := hS.cap
  have hmax := hS.max
  have hF' := Wd.fits_of hF
  unfold maxLen at hmax
  rcases (show 5000 < m ∨ (4096 < m ∧ m ≤ 5000) ∨ m ≤ 4096 by omega) with h | ⟨h, h2⟩ | h
  · clear hF'
    go_enter Try.func4, Try.ntmps4
    go_wp2_with fail
    refine (awake_any w).mono ?_
    rintro e w1 ⟨rfl, hB⟩
    go_wp2_with fail
    go_ret
    exact ⟨rfl, hB⟩
  · exact runsEncodes_some A m c l [] 2 w hS h2 (fun w _ => encode_long A m c w h (by omega)) (fun w _ => refEncode_long A m c w h (by omega))
  · exact runsEncodes_some A m c l _ 0 w hS (by omega) (fun w hS => encode_ok A m c l w hS h hF') (fun w hS => refEncode_ok A m c l w hS h hF')
end Lw
end Go.Proofs.Ytejhnmahmnbmkaa
