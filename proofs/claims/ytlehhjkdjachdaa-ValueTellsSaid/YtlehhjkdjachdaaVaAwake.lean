/- The examples of chapter 6 hold: the function awake of layer 6's statements answers true. -/
import Derived.Test.YtlehhjkdjachdaaVaOrder
import Derived.Test.YtlehhjkdjachdaaVaPut
import Derived.Test.YtlehhjkdjachdaaRefSame
namespace Go.Proofs.Ytlehhjkdjachdaa
open Go.RowKit
namespace Vc
open Va Nc
set_option maxHeartbeats 1000000 in
theorem awake_any (w : World) : Calls Try.prog 8 #[] w fun e w' => e = .returned (.bool true) ∧ Below w.heap.size w w' := by
  have c1 := Put_any none 0 0 [] 2 0 ⟨#[97, 98]⟩ false w (Wd.Sl.none_ _ _) (by omega) (by omega) (by omega)
  rw [show putL [] 2 0 ⟨#[97, 98]⟩ false = [2, 97, 98] by decide +kernel, show putE 2 0 ⟨#[97, 98]⟩ false = 0 by decide +kernel] at c1
  have C1 := Lib.hid c1
  have C2 := Lib.hid fun w => order_any 1 5 ⟨#[]⟩ false 2 0 ⟨#[97]⟩ false w
  rw [show ord ⟨1, 5, ⟨#[]⟩, false⟩ ⟨2, 0, ⟨#[97]⟩, false⟩ = -1 from rfl] at C2
  have C3 := Lib.hid fun w => may_any 0 0 ⟨#[]⟩ false w
  rw [show mayB 0 0 ⟨#[]⟩ false = true by decide +kernel] at C3
  clear c1
  go_enter Try.func8, Try.ntmps8
  go_wp2_with fail
  refine C1.out.mono ?_
  rintro e w1 ⟨A1, n1, k1, rfl, hS1, hB1⟩
  go_wp2_with fail
  refine (same_yes A1 _ n1 3 k1 3 [2, 97, 98] [2, 97, 98] _ (hS1.below ((Below.refl _ _).alloc (Nat.le_refl _) _)) (Wd.Sl.lit w1 .u8 [2, 97, 98] _ _ 3 rfl rfl (by decide)) rfl).mono ?_
  rintro e w2 ⟨rfl, hB2⟩
  have hW2 : Below w.heap.size w w2 := (hB1.alloc hB1.size _).trans (hB2.mono (by simp; have := hB1.size; omega))
  clear hB1 hB2 hS1 C1
  go_wp2_with fail
  refine (C2.out _).mono ?_
  rintro e w3 ⟨rfl, hB3⟩
  have hW3 : Below w.heap.size w w3 := hW2.trans (hB3.mono hW2.size)
  clear hB3 hW2
  go_wp2_with fail
  refine (C3.out _).mono ?_
  rintro e w4 ⟨rfl, hB4⟩
  have hW4 : Below w.heap.size w w4 := hW3.trans (hB4.mono hW3.size)
  go_wp2_with fail
  go_ret
  exact ⟨rfl, hW4⟩
end Vc
end Go.Proofs.Ytlehhjkdjachdaa
