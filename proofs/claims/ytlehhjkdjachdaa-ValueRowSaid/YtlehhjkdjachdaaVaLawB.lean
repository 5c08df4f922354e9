/- The walk of the statement ValueGets of layer 6. -/
import Derived.Test.YtlehhjkdjachdaaVaAwake
import Derived.Test.YtlehhjkdjachdaaVaAny
import Derived.Test.YtlehhjkdjachdaaVaMay
import Derived.Test.YtlehhjkdjachdaaVaRefAny
namespace Go.Proofs.Ytlehhjkdjachdaa
open Go.RowKit
namespace Lw
open Va Vc
theorem eq_self (k i : Int) (s : ByteArray) (b : Bool) (w : World) :
    (Op.equalIn 10000 23 (.agg #[.int .i64 k, .int .i64 i, .string s, .bool b]) (.agg #[.int .i64 k, .int .i64 i, .string s, .bool b])).run Try.prog w = .ok true w := by
  rw [eqV]
  simp
set_option maxRecDepth 100000 in
set_option maxHeartbeats 4000000 in
theorem gets_walk (A : Option Addr) (n c : Nat) (bs : List Int) (kind : Int) (w : World) (hS : Wd.Sl w .u8 A n c bs) (hF : Wd.Fits .u8 bs) (_kind0 : -9223372036854775808 ≤ kind) (_kind1 : kind ≤ 9223372036854775807) :
    Calls Try.prog 4 #[.slice A n c, .int .i64 kind] w fun e w' => e = .returned (.bool true) ∧ Below w.heap.size w w' := by
  have hB := byt_of hF
  clear hF
  obtain ⟨k1, i1, s1, b1, m1, e1, hg⟩ : ∃ kk ii ss bb m er, Va.get bs kind = (⟨kk, ii, ss, bb⟩, m, er) := ⟨_, _, _, _, _, _, rfl⟩
  obtain ⟨k2, i2, s2, b2, m2, e2, ha⟩ : ∃ kk ii ss bb m er, Va.any bs = (⟨kk, ii, ss, bb⟩, m, er) := ⟨_, _, _, _, _, _, rfl⟩
  have G1 := Lib.hid fun w' (hb : Below w.heap.size w w') => Get_any A n c bs kind w' (hS.below hb) hB
  have G2 := Lib.hid fun w' (hb : Below w.heap.size w w') => refGet_any A n c bs kind w' (hS.below hb) hB
  have G3 := Lib.hid fun w' (hb : Below w.heap.size w w') => Any_any A n c bs w' (hS.below hb) hB
  have G4 := Lib.hid fun w' (hb : Below w.heap.size w w') => refAny_any A n c bs w' (hS.below hb) hB
  rw [hg] at G1 G2
  rw [ha] at G3 G4
  unfold ansV at G1 G2 G3 G4
  have hq1 := fun w => eq_self k1 i1 s1 b1 w
  have hq2 := fun w => eq_self k2 i2 s2 b2 w
  clear hg ha hS hB
  have hW := Below.refl w.heap.size w
  go_enter Try.func4, Try.ntmps4
  go_wp2_with fail
  refine (awake_any _).mono ?_
  rintro e w1 ⟨rfl, hB1⟩
  replace hW := hW.trans (hB1.mono hW.size)
  clear hB1
  by_cases hn : 300 < (n : Int)
  · go_wp2_with fail
    go_ret
    exact ⟨rfl, hW⟩
  go_wp2_with fail
  refine (G1.out _ hW).mono ?_
  rintro e w2 ⟨rfl, hB1⟩
  replace hW := hW.trans (hB1.mono hW.size)
  clear hB1
  have x1 : Vb (w2.alloc (.cells #[.int .i64 k1, .int .i64 i1, .string s1, .bool b1] 23)) w2.heap.size k1 i1 s1 b1 := Wd.Bx.new _ _ _
  replace hW := hW.alloc hW.size (.cells #[.int .i64 k1, .int .i64 i1, .string s1, .bool b1] 23)
  go_wp2_with fail
  refine (G2.out _ hW).mono ?_
  rintro e w3 ⟨rfl, hB1⟩
  replace hW := hW.trans (hB1.mono hW.size)
  replace x1 := x1.below (Wd.Bx.lt x1) hB1
  clear hB1
  have x2 : Vb (w3.alloc (.cells #[.int .i64 k1, .int .i64 i1, .string s1, .bool b1] 23)) w3.heap.size k1 i1 s1 b1 := Wd.Bx.new _ _ _
  replace x1 := Wd.Bx.alloc x1 (.cells #[.int .i64 k1, .int .i64 i1, .string s1, .bool b1] 23)
  replace hW := hW.alloc hW.size (.cells #[.int .i64 k1, .int .i64 i1, .string s1, .bool b1] 23)
  go_wp2_with fail
  refine (G3.out _ hW).mono ?_
  rintro e w4 ⟨rfl, hB1⟩
  replace hW := hW.trans (hB1.mono hW.size)
  replace x1 := x1.below (Wd.Bx.lt x1) hB1
  replace x2 := x2.below (Wd.Bx.lt x2) hB1
  clear hB1
  have x3 : Vb (w4.alloc (.cells #[.int .i64 k2, .int .i64 i2, .string s2, .bool b2] 23)) w4.heap.size k2 i2 s2 b2 := Wd.Bx.new _ _ _
  replace x1 := Wd.Bx.alloc x1 (.cells #[.int .i64 k2, .int .i64 i2, .string s2, .bool b2] 23)
  replace x2 := Wd.Bx.alloc x2 (.cells #[.int .i64 k2, .int .i64 i2, .string s2, .bool b2] 23)
  replace hW := hW.alloc hW.size (.cells #[.int .i64 k2, .int .i64 i2, .string s2, .bool b2] 23)
  go_wp2_with fail
  refine (G4.out _ hW).mono ?_
  rintro e w5 ⟨rfl, hB1⟩
  replace hW := hW.trans (hB1.mono hW.size)
  replace x1 := x1.below (Wd.Bx.lt x1) hB1
  replace x2 := x2.below (Wd.Bx.lt x2) hB1
  replace x3 := x3.below (Wd.Bx.lt x3) hB1
  clear hB1
  have x4 : Vb (w5.alloc (.cells #[.int .i64 k2, .int .i64 i2, .string s2, .bool b2] 23)) w5.heap.size k2 i2 s2 b2 := Wd.Bx.new _ _ _
  replace x1 := Wd.Bx.alloc x1 (.cells #[.int .i64 k2, .int .i64 i2, .string s2, .bool b2] 23)
  replace x2 := Wd.Bx.alloc x2 (.cells #[.int .i64 k2, .int .i64 i2, .string s2, .bool b2] 23)
  replace x3 := Wd.Bx.alloc x3 (.cells #[.int .i64 k2, .int .i64 i2, .string s2, .bool b2] 23)
  replace hW := hW.alloc hW.size (.cells #[.int .i64 k2, .int .i64 i2, .string s2, .bool b2] 23)
  obtain ⟨⟨_, _, _, _⟩, -⟩ := four x1
  obtain ⟨⟨_, _, _, _⟩, -⟩ := four x2
  obtain ⟨⟨_, _, _, _⟩, -⟩ := four x3
  obtain ⟨⟨_, _, _, _⟩, -⟩ := four x4
  go_wp2_with fail
  go_ret
  exact ⟨rfl, hW⟩
end Lw
end Go.Proofs.Ytlehhjkdjachdaa
