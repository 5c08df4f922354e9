/- The walk of the statement ValueOrder of layer 6. -/
import Derived.Test.YtlehhjkdjachdaaVaAwake
namespace Go.Proofs.Ytlehhjkdjachdaa
open Go.RowKit
namespace Lw
open Va Vc
theorem mayB_yes {k i : Int} {s : ByteArray} {b : Bool} (h : mayB k i s b = true) : May ⟨k, i, s, b⟩ := (mayB_iff k i s b).1 h
theorem eq_ord {k1 i1 : Int} {s1 : ByteArray} {b1 : Bool} {k2 i2 : Int} {s2 : ByteArray} {b2 : Bool} (h1 : May ⟨k1, i1, s1, b1⟩) (h2 : May ⟨k2, i2, s2, b2⟩) :
    decide (k1 = k2 ∧ i1 = i2 ∧ s1 = s2 ∧ b1 = b2) = (ord ⟨k1, i1, s1, b1⟩ ⟨k2, i2, s2, b2⟩ == 0) := by
  have h := ord_zero h1 h2
  simp only [Vl.mk.injEq] at h
  rw [Bool.eq_iff_iff, decide_eq_true_iff, beq_iff_eq]
  exact h.symm
set_option maxRecDepth 100000 in
set_option maxHeartbeats 4000000 in
theorem order_walk (k1 i1 : Int) (s1 : ByteArray) (b1 : Bool) (k2 i2 : Int) (s2 : ByteArray) (b2 : Bool) (k3 i3 : Int) (s3 : ByteArray) (b3 : Bool) (w : World) :
    Calls Try.prog 5 #[.agg #[.int .i64 k1, .int .i64 i1, .string s1, .bool b1], .agg #[.int .i64 k2, .int .i64 i2, .string s2, .bool b2], .agg #[.int .i64 k3, .int .i64 i3, .string s3, .bool b3]] w fun e w' => e = .returned (.bool true) ∧ Below w.heap.size w w' := by
  have hW : Below w.heap.size w (((w.alloc (.cells #[.int .i64 k1, .int .i64 i1, .string s1, .bool b1] 23)).alloc (.cells #[.int .i64 k2, .int .i64 i2, .string s2, .bool b2] 23)).alloc (.cells #[.int .i64 k3, .int .i64 i3, .string s3, .bool b3] 23)) := (((Below.refl _ _).alloc (Nat.le_refl _) _).alloc (by simp) _).alloc (by simp; omega) _
  have x0 : Vb (((w.alloc (.cells #[.int .i64 k1, .int .i64 i1, .string s1, .bool b1] 23)).alloc (.cells #[.int .i64 k2, .int .i64 i2, .string s2, .bool b2] 23)).alloc (.cells #[.int .i64 k3, .int .i64 i3, .string s3, .bool b3] 23)) w.heap.size k1 i1 s1 b1 := ((Wd.Bx.new w _ _).alloc _).alloc _
  have x1 : Vb (((w.alloc (.cells #[.int .i64 k1, .int .i64 i1, .string s1, .bool b1] 23)).alloc (.cells #[.int .i64 k2, .int .i64 i2, .string s2, .bool b2] 23)).alloc (.cells #[.int .i64 k3, .int .i64 i3, .string s3, .bool b3] 23)) (w.heap.size + 1) k2 i2 s2 b2 := by
    have := (Wd.Bx.new (w.alloc (.cells #[.int .i64 k1, .int .i64 i1, .string s1, .bool b1] 23)) 23 #[.int .i64 k2, .int .i64 i2, .string s2, .bool b2]).alloc (.cells #[.int .i64 k3, .int .i64 i3, .string s3, .bool b3] 23)
    simpa [Vb] using this
  have x2 : Vb (((w.alloc (.cells #[.int .i64 k1, .int .i64 i1, .string s1, .bool b1] 23)).alloc (.cells #[.int .i64 k2, .int .i64 i2, .string s2, .bool b2] 23)).alloc (.cells #[.int .i64 k3, .int .i64 i3, .string s3, .bool b3] 23)) (w.heap.size + 1 + 1) k3 i3 s3 b3 := by
    have := Wd.Bx.new ((w.alloc (.cells #[.int .i64 k1, .int .i64 i1, .string s1, .bool b1] 23)).alloc (.cells #[.int .i64 k2, .int .i64 i2, .string s2, .bool b2] 23)) 23 #[.int .i64 k3, .int .i64 i3, .string s3, .bool b3]
    simpa [Vb] using this
  have M1 := Lib.hid fun w => may_any k1 i1 s1 b1 w
  have M2 := Lib.hid fun w => may_any k2 i2 s2 b2 w
  have M3 := Lib.hid fun w => may_any k3 i3 s3 b3 w
  go_enter Try.func5, Try.ntmps5
  go_wp2_with fail
  generalize ((w.alloc (.cells #[.int .i64 k1, .int .i64 i1, .string s1, .bool b1] 23)).alloc (.cells #[.int .i64 k2, .int .i64 i2, .string s2, .bool b2] 23)).alloc (.cells #[.int .i64 k3, .int .i64 i3, .string s3, .bool b3] 23) = w1 at *
  obtain ⟨⟨c00, c01, c02, c03⟩, -⟩ := four x0
  obtain ⟨⟨c10, c11, c12, c13⟩, -⟩ := four x1
  obtain ⟨⟨c20, c21, c22, c23⟩, -⟩ := four x2
  refine (awake_any _).mono ?_
  rintro e w2 ⟨rfl, hB⟩
  replace hW := hW.trans (hB.mono hW.size)
  replace x0 := x0.below (Wd.Bx.lt x0) hB
  replace x1 := x1.below (Wd.Bx.lt x1) hB
  replace x2 := x2.below (Wd.Bx.lt x2) hB
  clear hB c00 c01 c02 c03 c10 c11 c12 c13 c20 c21 c22 c23
  obtain ⟨⟨c00, c01, c02, c03⟩, -⟩ := four x0
  obtain ⟨⟨c10, c11, c12, c13⟩, -⟩ := four x1
  obtain ⟨⟨c20, c21, c22, c23⟩, -⟩ := four x2
  go_wp2_with fail
  cases m1 : mayB k1 i1 s1 b1
  case false =>
    rw [m1] at M1
    refine (M1.out _).mono ?_
    rintro e w3 ⟨rfl, hB⟩
    replace hW := hW.trans (hB.mono hW.size)
    replace x0 := x0.below (Wd.Bx.lt x0) hB
    replace x1 := x1.below (Wd.Bx.lt x1) hB
    replace x2 := x2.below (Wd.Bx.lt x2) hB
    clear hB c00 c01 c02 c03 c10 c11 c12 c13 c20 c21 c22 c23
    obtain ⟨⟨c00, c01, c02, c03⟩, -⟩ := four x0
    obtain ⟨⟨c10, c11, c12, c13⟩, -⟩ := four x1
    obtain ⟨⟨c20, c21, c22, c23⟩, -⟩ := four x2
    go_wp2_with fail
    go_ret
    exact ⟨rfl, hW⟩
  rw [m1] at M1
  refine (M1.out _).mono ?_
  rintro e w4 ⟨rfl, hB⟩
  replace hW := hW.trans (hB.mono hW.size)
  replace x0 := x0.below (Wd.Bx.lt x0) hB
  replace x1 := x1.below (Wd.Bx.lt x1) hB
  replace x2 := x2.below (Wd.Bx.lt x2) hB
  clear hB c00 c01 c02 c03 c10 c11 c12 c13 c20 c21 c22 c23
  obtain ⟨⟨c00, c01, c02, c03⟩, -⟩ := four x0
  obtain ⟨⟨c10, c11, c12, c13⟩, -⟩ := four x1
  obtain ⟨⟨c20, c21, c22, c23⟩, -⟩ := four x2
  go_wp2_with fail
  cases m2 : mayB k2 i2 s2 b2
  case false =>
    rw [m2] at M2
    refine (M2.out _).mono ?_
    rintro e w5 ⟨rfl, hB⟩
    replace hW := hW.trans (hB.mono hW.size)
    replace x0 := x0.below (Wd.Bx.lt x0) hB
    replace x1 := x1.below (Wd.Bx.lt x1) hB
    replace x2 := x2.below (Wd.Bx.lt x2) hB
    clear hB c00 c01 c02 c03 c10 c11 c12 c13 c20 c21 c22 c23
    obtain ⟨⟨c00, c01, c02, c03⟩, -⟩ := four x0
    obtain ⟨⟨c10, c11, c12, c13⟩, -⟩ := four x1
    obtain ⟨⟨c20, c21, c22, c23⟩, -⟩ := four x2
    go_wp2_with fail
    go_ret
    exact ⟨rfl, hW⟩
  rw [m2] at M2
  refine (M2.out _).mono ?_
  rintro e w6 ⟨rfl, hB⟩
  replace hW := hW.trans (hB.mono hW.size)
  replace x0 := x0.below (Wd.Bx.lt x0) hB
  replace x1 := x1.below (Wd.Bx.lt x1) hB
  replace x2 := x2.below (Wd.Bx.lt x2) hB
  clear hB c00 c01 c02 c03 c10 c11 c12 c13 c20 c21 c22 c23
  obtain ⟨⟨c00, c01, c02, c03⟩, -⟩ := four x0
  obtain ⟨⟨c10, c11, c12, c13⟩, -⟩ := four x1
  obtain ⟨⟨c20, c21, c22, c23⟩, -⟩ := four x2
  go_wp2_with fail
  cases m3 : mayB k3 i3 s3 b3
  case false =>
    rw [m3] at M3
    refine (M3.out _).mono ?_
    rintro e w7 ⟨rfl, hB⟩
    replace hW := hW.trans (hB.mono hW.size)
    replace x0 := x0.below (Wd.Bx.lt x0) hB
    replace x1 := x1.below (Wd.Bx.lt x1) hB
    replace x2 := x2.below (Wd.Bx.lt x2) hB
    clear hB c00 c01 c02 c03 c10 c11 c12 c13 c20 c21 c22 c23
    obtain ⟨⟨c00, c01, c02, c03⟩, -⟩ := four x0
    obtain ⟨⟨c10, c11, c12, c13⟩, -⟩ := four x1
    obtain ⟨⟨c20, c21, c22, c23⟩, -⟩ := four x2
    go_wp2_with fail
    go_ret
    exact ⟨rfl, hW⟩
  rw [m3] at M3
  refine (M3.out _).mono ?_
  rintro e w8 ⟨rfl, hB⟩
  replace hW := hW.trans (hB.mono hW.size)
  replace x0 := x0.below (Wd.Bx.lt x0) hB
  replace x1 := x1.below (Wd.Bx.lt x1) hB
  replace x2 := x2.below (Wd.Bx.lt x2) hB
  clear hB c00 c01 c02 c03 c10 c11 c12 c13 c20 c21 c22 c23
  obtain ⟨⟨c00, c01, c02, c03⟩, -⟩ := four x0
  obtain ⟨⟨c10, c11, c12, c13⟩, -⟩ := four x1
  obtain ⟨⟨c20, c21, c22, c23⟩, -⟩ := four x2
  go_wp2_with fail
  have y1 := mayB_yes m1
  have y2 := mayB_yes m2
  have y3 := mayB_yes m3
  have heq := fun w => eqV k1 i1 s1 b1 k2 i2 s2 b2 w
  rw [eq_ord y1 y2] at heq
  have Cab := Lib.hid fun w => order_any k1 i1 s1 b1 k2 i2 s2 b2 w
  have Cbc := Lib.hid fun w => order_any k2 i2 s2 b2 k3 i3 s3 b3 w
  have Cac := Lib.hid fun w => order_any k1 i1 s1 b1 k3 i3 s3 b3 w
  have Cba := Lib.hid fun w => order_any k2 i2 s2 b2 k1 i1 s1 b1 w
  have Caa := Lib.hid fun w => order_any k1 i1 s1 b1 k1 i1 s1 b1 w
  have Cna := Lib.hid fun w => order_any 0 0 ⟨#[]⟩ false k1 i1 s1 b1 w
  have F : ord ⟨k1, i1, s1, b1⟩ ⟨k2, i2, s2, b2⟩ ≤ 0 → ord ⟨k2, i2, s2, b2⟩ ⟨k3, i3, s3, b3⟩ ≤ 0 → ord ⟨k1, i1, s1, b1⟩ ⟨k3, i3, s3, b3⟩ ≤ 0 ∧ (ord ⟨k1, i1, s1, b1⟩ ⟨k3, i3, s3, b3⟩ = 0 ↔ ord ⟨k1, i1, s1, b1⟩ ⟨k2, i2, s2, b2⟩ = 0 ∧ ord ⟨k2, i2, s2, b2⟩ ⟨k3, i3, s3, b3⟩ = 0) := fun h1 h2 => ord_three y1 y2 y3 h1 h2
  have D1 := ord_bd (⟨k1, i1, s1, b1⟩ : Vl) ⟨k2, i2, s2, b2⟩
  have D2 := ord_bd (⟨k2, i2, s2, b2⟩ : Vl) ⟨k3, i3, s3, b3⟩
  have D3 := ord_bd (⟨k1, i1, s1, b1⟩ : Vl) ⟨k3, i3, s3, b3⟩
  have Dn : ord ⟨0, 0, ⟨#[]⟩, false⟩ ⟨k1, i1, s1, b1⟩ ≤ 0 := null_first y1
  rw [ord_neg (⟨k2, i2, s2, b2⟩ : Vl) ⟨k1, i1, s1, b1⟩] at Cba
  rw [ord_self (⟨k1, i1, s1, b1⟩ : Vl)] at Caa
  generalize ord ⟨k1, i1, s1, b1⟩ ⟨k2, i2, s2, b2⟩ = p at *
  generalize ord ⟨k2, i2, s2, b2⟩ ⟨k3, i3, s3, b3⟩ = q at *
  generalize ord ⟨k1, i1, s1, b1⟩ ⟨k3, i3, s3, b3⟩ = r at *
  generalize ord ⟨0, 0, ⟨#[]⟩, false⟩ ⟨k1, i1, s1, b1⟩ = z at *
  have HF := Lib.hid F
  have HD2 := Lib.hid D2
  have HD3 := Lib.hid D3
  obtain ⟨d1, d2⟩ := D1
  have Dn' : ¬ (0 : Int) < z := by omega
  clear F D2 D3 Dn y1 y2 y3 m1 m2 m3 M1 M2 M3
  refine (Cab.out _).mono ?_
  rintro e w9 ⟨rfl, hB⟩
  replace hW := hW.trans (hB.mono hW.size)
  replace x0 := x0.below (Wd.Bx.lt x0) hB
  replace x1 := x1.below (Wd.Bx.lt x1) hB
  replace x2 := x2.below (Wd.Bx.lt x2) hB
  clear hB c00 c01 c02 c03 c10 c11 c12 c13 c20 c21 c22 c23
  obtain ⟨⟨c00, c01, c02, c03⟩, -⟩ := four x0
  obtain ⟨⟨c10, c11, c12, c13⟩, -⟩ := four x1
  obtain ⟨⟨c20, c21, c22, c23⟩, -⟩ := four x2
  go_wp2_with fail
  refine (Cbc.out _).mono ?_
  rintro e w10 ⟨rfl, hB⟩
  replace hW := hW.trans (hB.mono hW.size)
  replace x0 := x0.below (Wd.Bx.lt x0) hB
  replace x1 := x1.below (Wd.Bx.lt x1) hB
  replace x2 := x2.below (Wd.Bx.lt x2) hB
  clear hB c00 c01 c02 c03 c10 c11 c12 c13 c20 c21 c22 c23
  obtain ⟨⟨c00, c01, c02, c03⟩, -⟩ := four x0
  obtain ⟨⟨c10, c11, c12, c13⟩, -⟩ := four x1
  obtain ⟨⟨c20, c21, c22, c23⟩, -⟩ := four x2
  go_wp2_with fail
  refine (Cac.out _).mono ?_
  rintro e w11 ⟨rfl, hB⟩
  replace hW := hW.trans (hB.mono hW.size)
  replace x0 := x0.below (Wd.Bx.lt x0) hB
  replace x1 := x1.below (Wd.Bx.lt x1) hB
  replace x2 := x2.below (Wd.Bx.lt x2) hB
  clear hB c00 c01 c02 c03 c10 c11 c12 c13 c20 c21 c22 c23
  obtain ⟨⟨c00, c01, c02, c03⟩, -⟩ := four x0
  obtain ⟨⟨c10, c11, c12, c13⟩, -⟩ := four x1
  obtain ⟨⟨c20, c21, c22, c23⟩, -⟩ := four x2
  go_wp2_with fail
  refine (Cba.out _).mono ?_
  rintro e w12 ⟨rfl, hB⟩
  replace hW := hW.trans (hB.mono hW.size)
  replace x0 := x0.below (Wd.Bx.lt x0) hB
  replace x1 := x1.below (Wd.Bx.lt x1) hB
  replace x2 := x2.below (Wd.Bx.lt x2) hB
  clear hB c00 c01 c02 c03 c10 c11 c12 c13 c20 c21 c22 c23
  obtain ⟨⟨c00, c01, c02, c03⟩, -⟩ := four x0
  obtain ⟨⟨c10, c11, c12, c13⟩, -⟩ := four x1
  obtain ⟨⟨c20, c21, c22, c23⟩, -⟩ := four x2
  go_wp2_with fail
  refine (Caa.out _).mono ?_
  rintro e w13 ⟨rfl, hB⟩
  replace hW := hW.trans (hB.mono hW.size)
  replace x0 := x0.below (Wd.Bx.lt x0) hB
  replace x1 := x1.below (Wd.Bx.lt x1) hB
  replace x2 := x2.below (Wd.Bx.lt x2) hB
  clear hB c00 c01 c02 c03 c10 c11 c12 c13 c20 c21 c22 c23
  obtain ⟨⟨c00, c01, c02, c03⟩, -⟩ := four x0
  obtain ⟨⟨c10, c11, c12, c13⟩, -⟩ := four x1
  obtain ⟨⟨c20, c21, c22, c23⟩, -⟩ := four x2
  go_wp2_with fail
  refine (Cna.out _).mono ?_
  rintro e w14 ⟨rfl, hB⟩
  replace hW := hW.trans (hB.mono hW.size)
  replace x0 := x0.below (Wd.Bx.lt x0) hB
  replace x1 := x1.below (Wd.Bx.lt x1) hB
  replace x2 := x2.below (Wd.Bx.lt x2) hB
  clear hB c00 c01 c02 c03 c10 c11 c12 c13 c20 c21 c22 c23
  obtain ⟨⟨c00, c01, c02, c03⟩, -⟩ := four x0
  obtain ⟨⟨c10, c11, c12, c13⟩, -⟩ := four x1
  obtain ⟨⟨c20, c21, c22, c23⟩, -⟩ := four x2
  have P : p = -1 ∨ p = 0 ∨ p = 1 := by omega
  have Q : q = -1 ∨ q = 0 ∨ q = 1 := by have := HD2.out; omega
  have R : r = -1 ∨ r = 0 ∨ r = 1 := by have := HD3.out; omega
  clear heq Cab Cbc Cac Cba Caa Cna x0 x1 x2
  rcases P with rfl | rfl | rfl <;> rcases Q with rfl | rfl | rfl <;> rcases R with rfl | rfl | rfl
  all_goals first
    | (exfalso; have := HF.out; omega)
    | (go_wp2_with fail
       go_ret
       exact ⟨rfl, hW⟩)
end Lw
end Go.Proofs.Ytlehhjkdjachdaa
