/- The examples of chapter 1 hold: the function awake of layer 1's statements answers true. -/
import Derived.Test.YthbliihjfgmepaaNumPut
import Derived.Test.YthbliihjfgmepaaNumGet
import Derived.Test.YthbliihjfgmepaaNumRef
namespace Go.Proofs.Ythbliihjfgmepaa
open Go.RowKit
namespace Nc

set_option maxHeartbeats 800000 in
theorem awake_any (w : World) : Calls Try.prog 9 #[] w fun e w' => e = .returned (.bool true) ∧ Below w.heap.size w w' := by
  go_enter Try.func9, Try.ntmps9
  go_wp2_with fail
  refine (put_any none 0 0 [] (-1) _ (Wd.Sl.none_ _ _) (by omega) (by omega) (by omega)).mono ?_
  rintro e w1 ⟨A1, n1, c1, rfl, hS1, hB1⟩
  have l1 : n1 ≤ 1 := by rw [hS1.len]; decide
  go_wp2_with fail
  refine (put_any A1 n1 c1 _ 1 _ hS1 (by omega) (by omega) (by omega)).mono ?_
  rintro e w2 ⟨A2, n2, c2, rfl, hS2, hB2⟩
  have l2 : n2 ≤ 2 := by rw [hS2.len]; decide
  go_wp2_with fail
  refine (put_any A2 n2 c2 _ 64 _ hS2 (by omega) (by omega) (by omega)).mono ?_
  rintro e w3 ⟨A3, n3, c3, rfl, hS3, hB3⟩
  have l3 : n3 ≤ 4 := by rw [hS3.len]; decide
  go_wp2_with fail
  refine (putLen_any A3 n3 c3 _ 300 _ hS3 (by omega) (by omega) (by omega)).mono ?_
  rintro e w4 ⟨A4, n4, c4, rfl, hS4, hB4⟩
  have hB : Below w.heap.size w w4 := ((hB1.trans (hB2.mono hB1.size)).trans (hB3.mono (Nat.le_trans hB1.size hB2.size))).trans (hB4.mono (Nat.le_trans hB1.size (Nat.le_trans hB2.size hB3.size)))
  clear hS1 hS2 hS3 hB1 hB2 hB3 hB4 l1 l2 l3
  have e4 : ([] ++ Nm.vd (Nm.zz (-1)) ++ Nm.vd (Nm.zz 1) ++ Nm.vd (Nm.zz 64) ++ if (300 : Int) < 0 then [] else Nm.vd 300) = [1, 2, 128, 1, 172, 2] := by decide
  rw [e4] at hS4
  clear e4
  go_wp2_with fail
  refine (same_yes A4 _ n4 6 c4 6 [1, 2, 128, 1, 172, 2] [1, 2, 128, 1, 172, 2] _ (hS4.below ((Below.refl _ _).alloc (Nat.le_refl _) _)) (Wd.Sl.lit w4 .u8 [1, 2, 128, 1, 172, 2] _ _ 6 rfl rfl (by decide)) rfl).mono ?_
  rintro e w5 ⟨rfl, hB5⟩
  have hB' : Below w.heap.size w w5 := (hB.alloc hB.size _).trans (hB5.mono (by simp; have := hB.size; omega))
  clear hB5 hB hS4
  go_wp2_with fail
  refine (get_any _ 2 2 [128, 0] _ (Wd.Sl.lit w5 .u8 [128, 0] _ _ 2 rfl rfl (by decide)) (by intro x hx; simp at hx; omega)).mono ?_
  rintro e w6 ⟨rfl, rfl⟩
  have e5 : three .i64 (Nm.getI [128, 0]) = .tuple #[.int .i64 0, .int .i64 0, .int .i64 7] := by rw [show Nm.getI [128, 0] = (0, 0, 7) by decide]; rfl
  rw [e5]
  clear e5
  go_wp2_with fail
  refine (size_any 64 _ (by omega) (by omega)).mono ?_
  rintro e w6 ⟨rfl, rfl⟩
  have e6 : ((Nm.vd (Nm.zz 64)).length : Int) = 2 := by decide
  rw [e6]
  clear e6
  go_wp2_with fail
  go_ret
  exact ⟨rfl, hB'.alloc hB'.size _⟩
end Nc
end Go.Proofs.Ythbliihjfgmepaa
