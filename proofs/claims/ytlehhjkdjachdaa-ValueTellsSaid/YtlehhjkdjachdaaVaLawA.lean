/- The walk of the statement ValueTells of layer 6. -/
import Derived.Test.YtlehhjkdjachdaaVaAwake
import Derived.Test.YtlehhjkdjachdaaVaRefPut
import Derived.Test.YtlehhjkdjachdaaVaRefO
import Derived.Deep.DeepCutAuto
namespace Go.Proofs.Ytlehhjkdjachdaa
open Go.RowKit
namespace Lw
open Va Vc Nc
theorem and8 {a b c d e f g h : Prop} (x : a ∧ b ∧ c ∧ d) (y : e ∧ f ∧ g ∧ h) : a ∧ b ∧ c ∧ d ∧ e ∧ f ∧ g ∧ h := ⟨x.1, x.2.1, x.2.2.1, x.2.2.2, y⟩
set_option maxRecDepth 100000 in
set_option maxHeartbeats 8000000 in
/-- With the answers as letters. -/
theorem tells_ok (k1 i1 : Int) (s1 : ByteArray) (b1 : Bool) (k2 i2 : Int) (s2 : ByteArray) (b2 : Bool) (A : Option Addr) (n c : Nat) (bs xs ys : List Int) (er : Int) (mb : Bool) (w : World) (hS : Wd.Sl w .u8 A n c bs)
    (C1 : Hid (∀ w', Below w.heap.size w w' → Calls Try.prog 9 #[.slice A n c, .agg #[.int .i64 k1, .int .i64 i1, .string s1, .bool b1]] w' (Wd.Out2 w' .u8 xs er)))
    (C2 : Hid (∀ w', Calls Try.prog 10 #[.agg #[.int .i64 k1, .int .i64 i1, .string s1, .bool b1]] w' (Wd.Out2 w' .u8 ys er)))
    (hm : mayB k1 i1 s1 b1 = mb) (hxy : Hid (er = 0 ∧ xs = bs ++ ys ∨ er = 1 ∧ xs = [])) (hy : ys.length ≤ 74) (l1 : s1.size ≤ 300) (l2 : s2.size ≤ 300) (l3 : n ≤ 300) :
    Calls Try.prog 3 #[.agg #[.int .i64 k1, .int .i64 i1, .string s1, .bool b1], .agg #[.int .i64 k2, .int .i64 i2, .string s2, .bool b2], .slice A n c] w fun e w' => e = .returned (.bool true) ∧ Below w.heap.size w w' := by
  obtain ⟨i0, hi, hz0, hz1, hz2⟩ := info_parts info_u8
  have g1 : ¬ (300 : Int) < (s1.size : Int) := by omega
  have g2 : ¬ (300 : Int) < (s2.size : Int) := by omega
  have g3 : ¬ (300 : Int) < (n : Int) := by omega
  have Hn := Lib.hid hS.len
  have hbl : bs.length ≤ 300 := by rw [← Hn.out]; exact l3
  have HS := Lib.hid hS
  have Cm := Lib.hid fun w => may_any k1 i1 s1 b1 w
  have Cr := Lib.hid fun w => refMay_any k1 i1 s1 b1 w
  rw [hm] at Cm Cr
  have Co := Lib.hid fun w => order_any k1 i1 s1 b1 k2 i2 s2 b2 w
  have Cq := Lib.hid fun w => refOrder_any k1 i1 s1 b1 k2 i2 s2 b2 w (by unfold maxLen; omega)
  generalize ord ⟨k1, i1, s1, b1⟩ ⟨k2, i2, s2, b2⟩ = od at *
  clear hm hS
  have hW : Below w.heap.size w ((w.alloc (.cells #[.int .i64 k1, .int .i64 i1, .string s1, .bool b1] 23)).alloc (.cells #[.int .i64 k2, .int .i64 i2, .string s2, .bool b2] 23)) := ((Below.refl _ _).alloc (Nat.le_refl _) _).alloc (by simp) _
  have x0 : Vb ((w.alloc (.cells #[.int .i64 k1, .int .i64 i1, .string s1, .bool b1] 23)).alloc (.cells #[.int .i64 k2, .int .i64 i2, .string s2, .bool b2] 23)) w.heap.size k1 i1 s1 b1 := (Wd.Bx.new w _ _).alloc _
  have x1 : Vb ((w.alloc (.cells #[.int .i64 k1, .int .i64 i1, .string s1, .bool b1] 23)).alloc (.cells #[.int .i64 k2, .int .i64 i2, .string s2, .bool b2] 23)) (w.heap.size + 1) k2 i2 s2 b2 := by
    have := Wd.Bx.new (w.alloc (.cells #[.int .i64 k1, .int .i64 i1, .string s1, .bool b1] 23)) 23 #[.int .i64 k2, .int .i64 i2, .string s2, .bool b2]
    simpa [Vb] using this
  rcases hxy.out with ⟨rfl, hx⟩ | ⟨rfl, hx⟩
  · have Hx := Lib.hid hx
    clear hx hxy
    go_enter Try.func3, Try.ntmps3
    go_wp2_with fail
    generalize (w.alloc (.cells #[.int .i64 k1, .int .i64 i1, .string s1, .bool b1] 23)).alloc (.cells #[.int .i64 k2, .int .i64 i2, .string s2, .bool b2] 23) = w0 at *
    obtain ⟨⟨c00, c01, c02, c03⟩, -⟩ := four x0
    obtain ⟨⟨c10, c11, c12, c13⟩, -⟩ := four x1
    refine (awake_any _).mono ?_
    rintro e w1 ⟨rfl, hB⟩
    replace hW := hW.trans (hB.mono hW.size)
    replace x0 := x0.below (Wd.Bx.lt x0) hB
    replace x1 := x1.below (Wd.Bx.lt x1) hB
    clear c00 c01 c02 c03 c10 c11 c12 c13
    obtain ⟨⟨c00, c01, c02, c03⟩, -⟩ := four x0
    obtain ⟨⟨c10, c11, c12, c13⟩, -⟩ := four x1
    clear hB
    go_wp2_with fail
    refine (C1.out _ hW).mono ?_
    rintro e w2 ⟨A2, n2, k2', rfl, hS2, hB⟩
    replace hW := hW.trans (hB.mono hW.size)
    replace x0 := x0.below (Wd.Bx.lt x0) hB
    replace x1 := x1.below (Wd.Bx.lt x1) hB
    clear c00 c01 c02 c03 c10 c11 c12 c13
    obtain ⟨⟨c00, c01, c02, c03⟩, -⟩ := four x0
    obtain ⟨⟨c10, c11, c12, c13⟩, -⟩ := four x1
    clear hB C1
    go_wp2_with fail
    refine (C2.out _).mono ?_
    rintro e w3 ⟨A3, n3, k3', rfl, hS3, hB⟩
    replace hW := hW.trans (hB.mono hW.size)
    replace x0 := x0.below (Wd.Bx.lt x0) hB
    replace x1 := x1.below (Wd.Bx.lt x1) hB
    clear c00 c01 c02 c03 c10 c11 c12 c13
    obtain ⟨⟨c00, c01, c02, c03⟩, -⟩ := four x0
    obtain ⟨⟨c10, c11, c12, c13⟩, -⟩ := four x1
    replace hS2 := hS2.below hB
    have Hn3 := Lib.hid hS3.len
    have hS1 := HS.out.below hW
    clear hB C2
    have hz3 := hW.size
    go_wp2_with (first
      | (at_builtin; refine Wd.wpList_app _ rfl (.const (.slice none 0 0)) (.tmp 46) 24 rfl w3.heap.size 5 i0 _ .u8 1 Try.underlying24 hi hz0 hz1 hz2 rfl (.slice none 0 0) [] rfl (World.ownsRow_nil _ _ _ _) w3.heap.size A n c bs rfl Hn.out hS1.nil hS1.rd (by simp; omega) (by simp [maxLen]; omega) (Nat.le_refl _) ?_; intro v4 w4 hown4 hg4; have hb4 := (Below.refl w3.heap.size w3).grown hg4 (Nat.le_refl _) (by simp [Value.ownBlock]))
      | (at_builtin; refine Wd.wpList_app _ rfl (.tmp 47) (.tmp 48) 24 rfl w3.heap.size 5 i0 _ .u8 1 Try.underlying24 hi hz0 hz1 hz2 rfl v4 ([] ++ bs) rfl hown4 w4.heap.size A3 n3 k3' ys rfl Hn3.out (hS3.below hb4).nil (hS3.below hb4).rd (by simp; omega) (by simp [maxLen]; omega) hb4.size ?_; intro v5 w5 hown5 hg5; have hb5 : Below w3.heap.size w3 w5 := hb4.grown hg5 hb4.size fun g hg => (hown4.lt g hg).1)
      | fail)
    obtain ⟨A5, n5, k5', rfl, hS5⟩ := Wd.Sl.of_own hown5
    refine (same_yes A2 A5 n2 n5 k2' k5' xs ([] ++ bs ++ ys) _ (hS2.below hb5) hS5 (by rw [Hx.out]; simp)).mono ?_
    rintro e w6 ⟨rfl, hB⟩
    replace hB := hb5.trans (hB.mono hb5.size)
    replace hW := hW.trans (hB.mono hW.size)
    replace x0 := x0.below (Wd.Bx.lt x0) hB
    replace x1 := x1.below (Wd.Bx.lt x1) hB
    clear hB hb5 hg5 hb4 hg4 hown4 hown5 hS1 hS2 hS3 Hn3 hz3 c00 c01 c02 c03 c10 c11 c12 c13
    obtain ⟨⟨c00, c01, c02, c03⟩, -⟩ := four x0
    obtain ⟨⟨c10, c11, c12, c13⟩, -⟩ := four x1
    go_upto_region 10 with fail
    have hl0 := Wd.Bx.lt x0
    have hl1 := Wd.Bx.lt x1
    have hz6 := hW.size
    have y0 : Vb w6.drew w.heap.size k1 i1 s1 b1 := x0
    have y1 : Vb w6.drew (w.heap.size + 1) k2 i2 s2 b2 := x1
    have z6 := and8 (four y0).1 (four y1).1
    go_region_held3 (fun w' => w'.cell? ⟨w.heap.size, 0, none⟩ = some (.int .i64 k1) ∧ w'.cell? ⟨w.heap.size, 1, none⟩ = some (.int .i64 i1) ∧ w'.cell? ⟨w.heap.size, 2, none⟩ = some (.string s1) ∧ w'.cell? ⟨w.heap.size, 3, none⟩ = some (.bool b1) ∧ w'.cell? ⟨w.heap.size + 1, 0, none⟩ = some (.int .i64 k2) ∧ w'.cell? ⟨w.heap.size + 1, 1, none⟩ = some (.int .i64 i2) ∧ w'.cell? ⟨w.heap.size + 1, 2, none⟩ = some (.string s2) ∧ w'.cell? ⟨w.heap.size + 1, 3, none⟩ = some (.bool b2)) (with_reducible first | exact z10 | exact z9 | exact z8 | exact z7 | exact z6) (first | (go_at_call 12; (with_reducible refine (Cm.out w6.drew).mono ?_); rintro e w7 ⟨rfl, hB⟩; have hb7 : Below w6.heap.size w6 w7 := Wd.of_drew hB; have z7 := and8 (four (Wd.Bx.below x0 hl0 hb7)).1 (four (Wd.Bx.below x1 hl1 hb7)).1) | (go_at_call 13; (with_reducible refine (Cr.out w7).mono ?_); rintro e w8 ⟨rfl, hB⟩; have hb8 : Below w6.heap.size w6 w8 := hb7.trans (hB.mono hb7.size); have z8 := and8 (four (Wd.Bx.below x0 hl0 hb8)).1 (four (Wd.Bx.below x1 hl1 hb8)).1) | (go_at_call 14; (with_reducible refine (Co.out w8).mono ?_); rintro e w9 ⟨rfl, hB⟩; have hb9 : Below w6.heap.size w6 w9 := hb8.trans (hB.mono hb8.size); have z9 := and8 (four (Wd.Bx.below x0 hl0 hb9)).1 (four (Wd.Bx.below x1 hl1 hb9)).1) | (go_at_call 15; (with_reducible refine (Cq.out w9).mono ?_); rintro e w10 ⟨rfl, hB⟩; have hb10 : Below w6.heap.size w6 w10 := hb9.trans (hB.mono hb9.size); have z10 := and8 (four (Wd.Bx.below x0 hl0 hb10)).1 (four (Wd.Bx.below x1 hl1 hb10)).1))
    go_wp2_with fail
    go_ret
    exact ⟨rfl, hW.trans (hb10.mono hz6)⟩
  · have Hx := Lib.hid hx
    clear hx hxy
    go_enter Try.func3, Try.ntmps3
    go_wp2_with fail
    generalize (w.alloc (.cells #[.int .i64 k1, .int .i64 i1, .string s1, .bool b1] 23)).alloc (.cells #[.int .i64 k2, .int .i64 i2, .string s2, .bool b2] 23) = w0 at *
    obtain ⟨⟨c00, c01, c02, c03⟩, -⟩ := four x0
    obtain ⟨⟨c10, c11, c12, c13⟩, -⟩ := four x1
    refine (awake_any _).mono ?_
    rintro e w1 ⟨rfl, hB⟩
    replace hW := hW.trans (hB.mono hW.size)
    replace x0 := x0.below (Wd.Bx.lt x0) hB
    replace x1 := x1.below (Wd.Bx.lt x1) hB
    clear c00 c01 c02 c03 c10 c11 c12 c13
    obtain ⟨⟨c00, c01, c02, c03⟩, -⟩ := four x0
    obtain ⟨⟨c10, c11, c12, c13⟩, -⟩ := four x1
    clear hB
    go_wp2_with fail
    refine (C1.out _ hW).mono ?_
    rintro e w2 ⟨A2, n2, k2', rfl, hS2, hB⟩
    replace hW := hW.trans (hB.mono hW.size)
    replace x0 := x0.below (Wd.Bx.lt x0) hB
    replace x1 := x1.below (Wd.Bx.lt x1) hB
    clear c00 c01 c02 c03 c10 c11 c12 c13
    obtain ⟨⟨c00, c01, c02, c03⟩, -⟩ := four x0
    obtain ⟨⟨c10, c11, c12, c13⟩, -⟩ := four x1
    clear hB C1
    go_wp2_with fail
    refine (C2.out _).mono ?_
    rintro e w3 ⟨A3, n3, k3', rfl, hS3, hB⟩
    replace hW := hW.trans (hB.mono hW.size)
    replace x0 := x0.below (Wd.Bx.lt x0) hB
    replace x1 := x1.below (Wd.Bx.lt x1) hB
    clear c00 c01 c02 c03 c10 c11 c12 c13
    obtain ⟨⟨c00, c01, c02, c03⟩, -⟩ := four x0
    obtain ⟨⟨c10, c11, c12, c13⟩, -⟩ := four x1
    replace hS2 := hS2.below hB
    have Hn3 := Lib.hid hS3.len
    have hS1 := HS.out.below hW
    clear hB C2
    have hz3 := hW.size
    go_wp2_with (first
      | (at_builtin; refine Wd.wpList_app _ rfl (.const (.slice none 0 0)) (.tmp 46) 24 rfl w3.heap.size 5 i0 _ .u8 1 Try.underlying24 hi hz0 hz1 hz2 rfl (.slice none 0 0) [] rfl (World.ownsRow_nil _ _ _ _) w3.heap.size A n c bs rfl Hn.out hS1.nil hS1.rd (by simp; omega) (by simp [maxLen]; omega) (Nat.le_refl _) ?_; intro v4 w4 hown4 hg4; have hb4 := (Below.refl w3.heap.size w3).grown hg4 (Nat.le_refl _) (by simp [Value.ownBlock]))
      | (at_builtin; refine Wd.wpList_app _ rfl (.tmp 47) (.tmp 48) 24 rfl w3.heap.size 5 i0 _ .u8 1 Try.underlying24 hi hz0 hz1 hz2 rfl v4 ([] ++ bs) rfl hown4 w4.heap.size A3 n3 k3' ys rfl Hn3.out (hS3.below hb4).nil (hS3.below hb4).rd (by simp; omega) (by simp [maxLen]; omega) hb4.size ?_; intro v5 w5 hown5 hg5; have hb5 : Below w3.heap.size w3 w5 := hb4.grown hg5 hb4.size fun g hg => (hown4.lt g hg).1)
      | fail)
    refine (same_yes A2 none n2 0 k2' 0 xs [] _ (hS2.below hb5) (Wd.Sl.none_ _ _) Hx.out).mono ?_
    rintro e w6 ⟨rfl, hB⟩
    replace hB := hb5.trans (hB.mono hb5.size)
    replace hW := hW.trans (hB.mono hW.size)
    replace x0 := x0.below (Wd.Bx.lt x0) hB
    replace x1 := x1.below (Wd.Bx.lt x1) hB
    clear hB hb5 hg5 hb4 hg4 hown4 hown5 hS1 hS2 hS3 Hn3 hz3 c00 c01 c02 c03 c10 c11 c12 c13
    obtain ⟨⟨c00, c01, c02, c03⟩, -⟩ := four x0
    obtain ⟨⟨c10, c11, c12, c13⟩, -⟩ := four x1
    go_upto_region 10 with fail
    have hl0 := Wd.Bx.lt x0
    have hl1 := Wd.Bx.lt x1
    have hz6 := hW.size
    have y0 : Vb w6.drew w.heap.size k1 i1 s1 b1 := x0
    have y1 : Vb w6.drew (w.heap.size + 1) k2 i2 s2 b2 := x1
    have z6 := and8 (four y0).1 (four y1).1
    go_region_held3 (fun w' => w'.cell? ⟨w.heap.size, 0, none⟩ = some (.int .i64 k1) ∧ w'.cell? ⟨w.heap.size, 1, none⟩ = some (.int .i64 i1) ∧ w'.cell? ⟨w.heap.size, 2, none⟩ = some (.string s1) ∧ w'.cell? ⟨w.heap.size, 3, none⟩ = some (.bool b1) ∧ w'.cell? ⟨w.heap.size + 1, 0, none⟩ = some (.int .i64 k2) ∧ w'.cell? ⟨w.heap.size + 1, 1, none⟩ = some (.int .i64 i2) ∧ w'.cell? ⟨w.heap.size + 1, 2, none⟩ = some (.string s2) ∧ w'.cell? ⟨w.heap.size + 1, 3, none⟩ = some (.bool b2)) (with_reducible first | exact z10 | exact z9 | exact z8 | exact z7 | exact z6) (first | (go_at_call 12; (with_reducible refine (Cm.out w6.drew).mono ?_); rintro e w7 ⟨rfl, hB⟩; have hb7 : Below w6.heap.size w6 w7 := Wd.of_drew hB; have z7 := and8 (four (Wd.Bx.below x0 hl0 hb7)).1 (four (Wd.Bx.below x1 hl1 hb7)).1) | (go_at_call 13; (with_reducible refine (Cr.out w7).mono ?_); rintro e w8 ⟨rfl, hB⟩; have hb8 : Below w6.heap.size w6 w8 := hb7.trans (hB.mono hb7.size); have z8 := and8 (four (Wd.Bx.below x0 hl0 hb8)).1 (four (Wd.Bx.below x1 hl1 hb8)).1) | (go_at_call 14; (with_reducible refine (Co.out w8).mono ?_); rintro e w9 ⟨rfl, hB⟩; have hb9 : Below w6.heap.size w6 w9 := hb8.trans (hB.mono hb8.size); have z9 := and8 (four (Wd.Bx.below x0 hl0 hb9)).1 (four (Wd.Bx.below x1 hl1 hb9)).1) | (go_at_call 15; (with_reducible refine (Cq.out w9).mono ?_); rintro e w10 ⟨rfl, hB⟩; have hb10 : Below w6.heap.size w6 w10 := hb9.trans (hB.mono hb9.size); have z10 := and8 (four (Wd.Bx.below x0 hl0 hb10)).1 (four (Wd.Bx.below x1 hl1 hb10)).1))
    go_wp2_with fail
    go_ret
    exact ⟨rfl, hW.trans (hb10.mono hz6)⟩
set_option maxRecDepth 100000 in
set_option maxHeartbeats 4000000 in
theorem tells_walk (k1 i1 : Int) (s1 : ByteArray) (b1 : Bool) (k2 i2 : Int) (s2 : ByteArray) (b2 : Bool) (A : Option Addr) (n c : Nat) (bs : List Int) (w : World) (i10 : -9223372036854775808 ≤ i1) (i11 : i1 ≤ 9223372036854775807) (_i20 : -9223372036854775808 ≤ i2) (_i21 : i2 ≤ 9223372036854775807) (hS : Wd.Sl w .u8 A n c bs) (_hF : Wd.Fits .u8 bs) :
    Calls Try.prog 3 #[.agg #[.int .i64 k1, .int .i64 i1, .string s1, .bool b1], .agg #[.int .i64 k2, .int .i64 i2, .string s2, .bool b2], .slice A n c] w fun e w' => e = .returned (.bool true) ∧ Below w.heap.size w w' := by
  by_cases l1 : 300 < s1.size
  · have hW : Below w.heap.size w ((w.alloc (.cells #[.int .i64 k1, .int .i64 i1, .string s1, .bool b1] 23)).alloc (.cells #[.int .i64 k2, .int .i64 i2, .string s2, .bool b2] 23)) := ((Below.refl _ _).alloc (Nat.le_refl _) _).alloc (by simp) _
    have x0 : Vb ((w.alloc (.cells #[.int .i64 k1, .int .i64 i1, .string s1, .bool b1] 23)).alloc (.cells #[.int .i64 k2, .int .i64 i2, .string s2, .bool b2] 23)) w.heap.size k1 i1 s1 b1 := (Wd.Bx.new w _ _).alloc _
    have x1 : Vb ((w.alloc (.cells #[.int .i64 k1, .int .i64 i1, .string s1, .bool b1] 23)).alloc (.cells #[.int .i64 k2, .int .i64 i2, .string s2, .bool b2] 23)) (w.heap.size + 1) k2 i2 s2 b2 := by
      have := Wd.Bx.new (w.alloc (.cells #[.int .i64 k1, .int .i64 i1, .string s1, .bool b1] 23)) 23 #[.int .i64 k2, .int .i64 i2, .string s2, .bool b2]
      simpa [Vb] using this
    have g1 : (300 : Int) < (s1.size : Int) := by omega
    clear hS
    go_enter Try.func3, Try.ntmps3
    go_wp2_with fail
    generalize (w.alloc (.cells #[.int .i64 k1, .int .i64 i1, .string s1, .bool b1] 23)).alloc (.cells #[.int .i64 k2, .int .i64 i2, .string s2, .bool b2] 23) = w0 at *
    refine (awake_any _).mono ?_
    rintro e w1 ⟨rfl, hB⟩
    obtain ⟨⟨c00, c01, c02, c03⟩, -⟩ := four (x0.below (Wd.Bx.lt x0) hB)
    obtain ⟨⟨c10, c11, c12, c13⟩, -⟩ := four (x1.below (Wd.Bx.lt x1) hB)
    go_wp2_with fail
    go_ret
    exact ⟨rfl, hW.trans (hB.mono hW.size)⟩
  by_cases l2 : 300 < s2.size
  · have hW : Below w.heap.size w ((w.alloc (.cells #[.int .i64 k1, .int .i64 i1, .string s1, .bool b1] 23)).alloc (.cells #[.int .i64 k2, .int .i64 i2, .string s2, .bool b2] 23)) := ((Below.refl _ _).alloc (Nat.le_refl _) _).alloc (by simp) _
    have x0 : Vb ((w.alloc (.cells #[.int .i64 k1, .int .i64 i1, .string s1, .bool b1] 23)).alloc (.cells #[.int .i64 k2, .int .i64 i2, .string s2, .bool b2] 23)) w.heap.size k1 i1 s1 b1 := (Wd.Bx.new w _ _).alloc _
    have x1 : Vb ((w.alloc (.cells #[.int .i64 k1, .int .i64 i1, .string s1, .bool b1] 23)).alloc (.cells #[.int .i64 k2, .int .i64 i2, .string s2, .bool b2] 23)) (w.heap.size + 1) k2 i2 s2 b2 := by
      have := Wd.Bx.new (w.alloc (.cells #[.int .i64 k1, .int .i64 i1, .string s1, .bool b1] 23)) 23 #[.int .i64 k2, .int .i64 i2, .string s2, .bool b2]
      simpa [Vb] using this
    have g1 : ¬ (300 : Int) < (s1.size : Int) := by omega
    have g2 : (300 : Int) < (s2.size : Int) := by omega
    clear hS
    go_enter Try.func3, Try.ntmps3
    go_wp2_with fail
    generalize (w.alloc (.cells #[.int .i64 k1, .int .i64 i1, .string s1, .bool b1] 23)).alloc (.cells #[.int .i64 k2, .int .i64 i2, .string s2, .bool b2] 23) = w0 at *
    refine (awake_any _).mono ?_
    rintro e w1 ⟨rfl, hB⟩
    obtain ⟨⟨c00, c01, c02, c03⟩, -⟩ := four (x0.below (Wd.Bx.lt x0) hB)
    obtain ⟨⟨c10, c11, c12, c13⟩, -⟩ := four (x1.below (Wd.Bx.lt x1) hB)
    go_wp2_with fail
    go_ret
    exact ⟨rfl, hW.trans (hB.mono hW.size)⟩
  by_cases l3 : 300 < n
  · have hW : Below w.heap.size w ((w.alloc (.cells #[.int .i64 k1, .int .i64 i1, .string s1, .bool b1] 23)).alloc (.cells #[.int .i64 k2, .int .i64 i2, .string s2, .bool b2] 23)) := ((Below.refl _ _).alloc (Nat.le_refl _) _).alloc (by simp) _
    have x0 : Vb ((w.alloc (.cells #[.int .i64 k1, .int .i64 i1, .string s1, .bool b1] 23)).alloc (.cells #[.int .i64 k2, .int .i64 i2, .string s2, .bool b2] 23)) w.heap.size k1 i1 s1 b1 := (Wd.Bx.new w _ _).alloc _
    have x1 : Vb ((w.alloc (.cells #[.int .i64 k1, .int .i64 i1, .string s1, .bool b1] 23)).alloc (.cells #[.int .i64 k2, .int .i64 i2, .string s2, .bool b2] 23)) (w.heap.size + 1) k2 i2 s2 b2 := by
      have := Wd.Bx.new (w.alloc (.cells #[.int .i64 k1, .int .i64 i1, .string s1, .bool b1] 23)) 23 #[.int .i64 k2, .int .i64 i2, .string s2, .bool b2]
      simpa [Vb] using this
    have g1 : ¬ (300 : Int) < (s1.size : Int) := by omega
    have g2 : ¬ (300 : Int) < (s2.size : Int) := by omega
    have g3 : (300 : Int) < (n : Int) := by omega
    clear hS
    go_enter Try.func3, Try.ntmps3
    go_wp2_with fail
    generalize (w.alloc (.cells #[.int .i64 k1, .int .i64 i1, .string s1, .bool b1] 23)).alloc (.cells #[.int .i64 k2, .int .i64 i2, .string s2, .bool b2] 23) = w0 at *
    refine (awake_any _).mono ?_
    rintro e w1 ⟨rfl, hB⟩
    obtain ⟨⟨c00, c01, c02, c03⟩, -⟩ := four (x0.below (Wd.Bx.lt x0) hB)
    obtain ⟨⟨c10, c11, c12, c13⟩, -⟩ := four (x1.below (Wd.Bx.lt x1) hB)
    go_wp2_with fail
    go_ret
    exact ⟨rfl, hW.trans (hB.mono hW.size)⟩
  refine tells_ok k1 i1 s1 b1 k2 i2 s2 b2 A n c bs (putL bs k1 i1 s1 b1) (putR k1 i1 s1 b1) (putE k1 i1 s1 b1) (mayB k1 i1 s1 b1) w hS (Lib.hid fun w' hb => Put_any A n c bs k1 i1 s1 b1 w' (hS.below hb) (by omega) i10 i11) (Lib.hid fun w' => refPutV_any k1 i1 s1 b1 w' i10 i11) rfl (Lib.hid ?_) ?_ (by omega) (by omega) (by omega)
  · unfold putL putR putE
    cases mayB k1 i1 s1 b1 <;> simp
  · unfold putR
    split
    · rename_i h
      exact put_len ((mayB_iff k1 i1 s1 b1).1 h)
    · simp
end Lw
end Go.Proofs.Ytlehhjkdjachdaa
