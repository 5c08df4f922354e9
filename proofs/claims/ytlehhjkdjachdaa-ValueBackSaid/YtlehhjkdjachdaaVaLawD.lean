/- The walk of the statement ValueBack of layer 6. -/
import Derived.Test.YtlehhjkdjachdaaVaLawB
import Derived.Test.YtlehhjkdjachdaaVaPut
namespace Go.Proofs.Ytlehhjkdjachdaa
open Go.RowKit
namespace Lw
open Va Vc Nc
set_option maxRecDepth 100000 in
set_option maxHeartbeats 8000000 in
theorem back_err (k1 i1 : Int) (s1 : ByteArray) (b1 : Bool) (A : Option Addr) (n c : Nat) (more : List Int) (kind : Int) (ds : List Int) (L : Nat) (er : Int) (w : World) (hS : Wd.Sl w .u8 A n c more)
    (C1 : Hid (∀ w', Calls Try.prog 9 #[.slice none 0 0, .agg #[.int .i64 k1, .int .i64 i1, .string s1, .bool b1]] w' (Wd.Out2 w' .u8 ds 0)))
    (M1 : Hid (∀ w', Calls Try.prog 12 #[.agg #[.int .i64 k1, .int .i64 i1, .string s1, .bool b1]] w' fun e w'' => e = .returned (.bool true) ∧ Below w'.heap.size w' w''))
    (G1 : Hid (∀ w' A' n' c', Wd.Sl w' .u8 A' n' c' (([] ++ ds) ++ more) → Calls Try.prog 16 #[.slice A' n' c', .int .i64 k1] w' fun e w'' => e = .returned (.tuple #[.agg #[.int .i64 k1, .int .i64 i1, .string s1, .bool b1], .int .i64 (L : Int), .int .i64 0]) ∧ Below w'.heap.size w' w''))
    (A1 : Hid (∀ w' A' n' c', Wd.Sl w' .u8 A' n' c' ([k1] ++ (([] ++ ds) ++ more)) → Calls Try.prog 18 #[.slice A' n' c'] w' fun e w'' => e = .returned (.tuple #[.agg #[.int .i64 k1, .int .i64 i1, .string s1, .bool b1], .int .i64 ((L : Int) + 1), .int .i64 0]) ∧ Below w'.heap.size w' w''))
    (G2 : Hid (∀ w', Below w.heap.size w w' → Calls Try.prog 16 #[.slice A n c, .int .i64 kind] w' fun e w'' => e = .returned (.tuple #[.agg #[.int .i64 0, .int .i64 0, .string ⟨#[]⟩, .bool false], .int .i64 0, .int .i64 er]) ∧ Below w'.heap.size w' w''))
    (he : (er != 0) = true)
    (hk0 : 0 ≤ k1) (hk1 : k1 ≤ 3) (hL : L = ds.length) (hL7 : L ≤ 74) (l1 : s1.size ≤ 300) (l3 : n ≤ 300) :
    Calls Try.prog 6 #[.agg #[.int .i64 k1, .int .i64 i1, .string s1, .bool b1], .slice A n c, .int .i64 kind] w fun e w' => e = .returned (.bool true) ∧ Below w.heap.size w w' := by
  obtain ⟨i0, hi, hz0, hz1, hz2⟩ := info_parts info_u8
  have g1 : ¬ (300 : Int) < (s1.size : Int) := by omega
  have g3 : ¬ (300 : Int) < (n : Int) := by omega
  have hwk : IntKind.u8.wrap k1 = k1 := by
    have : k1 = 0 ∨ k1 = 1 ∨ k1 = 2 ∨ k1 = 3 := by omega
    rcases this with rfl | rfl | rfl | rfl <;> rfl
  have hw1 : IntKind.i64.wrap ((L : Int) + 1) = (L : Int) + 1 := IntWalk.i64_in _ (by omega)
  have hcap := hS.cap
  have hmx := hS.max
  unfold maxLen at hmx
  have Hn := Lib.hid hS.len
  have hml : more.length ≤ 300 := by rw [← Hn.out]; exact l3
  have HL := Lib.hid hL
  have hdl : ds.length ≤ 74 := by rw [← HL.out]; exact hL7
  have hq1 := fun w => eq_self k1 i1 s1 b1 w
  have hq0 := fun w => eq_self 0 0 ⟨#[]⟩ false w
  clear hL
  have hW : Below w.heap.size w (w.alloc (.cells #[.int .i64 k1, .int .i64 i1, .string s1, .bool b1] 23)) := (Below.refl _ _).alloc (Nat.le_refl _) _
  have x0 : Vb (w.alloc (.cells #[.int .i64 k1, .int .i64 i1, .string s1, .bool b1] 23)) w.heap.size k1 i1 s1 b1 := Wd.Bx.new w _ _
  go_enter Try.func6, Try.ntmps6
  go_wp2_with fail
  generalize w.alloc (.cells #[.int .i64 k1, .int .i64 i1, .string s1, .bool b1] 23) = w0 at *
  refine (awake_any _).mono ?_
  rintro e w1 ⟨rfl, hB⟩
  replace hW := hW.trans (hB.mono hW.size)
  replace x0 := x0.below (Wd.Bx.lt x0) hB
  clear hB
  obtain ⟨⟨x0a, x0b, x0c, x0d⟩, -⟩ := four x0
  go_wp2_with fail
  refine (C1.out _).mono ?_
  rintro e w2 ⟨A2, n2, k2, rfl, hS2, hB⟩
  clear x0a x0b x0c x0d
  replace hW := hW.trans (hB.mono hW.size)
  replace x0 := x0.below (Wd.Bx.lt x0) hB
  clear hB
  obtain ⟨⟨x0a, x0b, x0c, x0d⟩, -⟩ := four x0
  have hn2 : n2 = L := by rw [hS2.len]; exact HL.out.symm
  subst hn2
  go_wp2_with fail
  refine (M1.out _).mono ?_
  rintro e w3 ⟨rfl, hB⟩
  replace hS2 := hS2.below hB
  clear x0a x0b x0c x0d
  replace hW := hW.trans (hB.mono hW.size)
  replace x0 := x0.below (Wd.Bx.lt x0) hB
  clear hB
  obtain ⟨⟨x0a, x0b, x0c, x0d⟩, -⟩ := four x0
  have hS1 := hS.below hW
  go_wp2_with (first
    | (at_builtin; refine Wd.wpList_app _ rfl (.const (.slice none 0 0)) (.tmp 53) 24 rfl w3.heap.size 5 i0 _ .u8 1 Try.underlying24 hi hz0 hz1 hz2 rfl (.slice none 0 0) [] rfl (World.ownsRow_nil _ _ _ _) w3.heap.size A2 n2 k2 ds rfl HL.out hS2.nil hS2.rd (by simp; omega) (by simp [maxLen]; omega) (Nat.le_refl _) ?_; intro v4 w4 hown4 hg4; have hb4 := (Below.refl w3.heap.size w3).grown hg4 (Nat.le_refl _) (by simp [Value.ownBlock]))
    | (at_builtin; refine Wd.wpList_app _ rfl (.tmp 54) (.tmp 55) 24 rfl w3.heap.size 5 i0 _ .u8 1 Try.underlying24 hi hz0 hz1 hz2 rfl v4 ([] ++ ds) rfl hown4 w4.heap.size A n c more rfl Hn.out (hS1.below hb4).nil (hS1.below hb4).rd (by simp; omega) (by simp [maxLen]; omega) hb4.size ?_; intro v5 w5 hown5 hg5; have hB : Below w3.heap.size w3 w5 := hb4.grown hg5 hb4.size fun g hg => (hown4.lt g hg).1; obtain ⟨A5, n5, k5, rfl, hS5⟩ := Wd.Sl.of_own hown5; clear hg4 hb4 hown4 hg5 hown5 hS1; replace hW := hW.trans (hB.mono hW.size); replace x0 := x0.below (Wd.Bx.lt x0) hB; clear hB x0a x0b x0c x0d; obtain ⟨⟨x0a, x0b, x0c, x0d⟩, -⟩ := four x0)
    | fail)
  refine (G1.out _ A5 n5 k5 hS5).mono ?_
  rintro e w6 ⟨rfl, hB⟩
  clear x0a x0b x0c x0d
  replace hW := hW.trans (hB.mono hW.size)
  replace x0 := x0.below (Wd.Bx.lt x0) hB
  replace hS5 := hS5.below hB
  clear hB
  have x1 : Vb (w6.alloc (.cells #[.int .i64 k1, .int .i64 i1, .string s1, .bool b1] 23)) w6.heap.size k1 i1 s1 b1 := Wd.Bx.new _ _ _
  replace x0 : Vb (w6.alloc (.cells #[.int .i64 k1, .int .i64 i1, .string s1, .bool b1] 23)) w.heap.size k1 i1 s1 b1 := Wd.Bx.alloc x0 _
  replace hS5 := hS5.below ((Below.refl w6.heap.size w6).alloc (Nat.le_refl _) (.cells #[.int .i64 k1, .int .i64 i1, .string s1, .bool b1] 23))
  replace hW := hW.alloc hW.size (.cells #[.int .i64 k1, .int .i64 i1, .string s1, .bool b1] 23)
  obtain ⟨w7, hw7⟩ : ∃ w7, w7 = w6.alloc (.cells #[.int .i64 k1, .int .i64 i1, .string s1, .bool b1] 23) := ⟨_, rfl⟩
  rw [← hw7] at x1 x0 hS5 hW
  obtain ⟨⟨x0a, x0b, x0c, x0d⟩, -⟩ := four x0
  go_upto_region 9 with fail
  rw [← hw7]
  clear hw7
  go_wp2_with (first
    | (at_builtin; refine Wd.wpList_app _ rfl (.tmp 69) (.tmp 70) 24 rfl w7.heap.size 5 i0 _ .u8 1 Try.underlying24 hi hz0 hz1 hz2 rfl (.slice (some ⟨w7.heap.size, 0, none⟩) 1 1) [k1] rfl (World.ownsRow_lit w7 #[.int .u8 k1] 1 (Nat.le_refl _) (by simp [maxLen]) rfl) (w7.alloc (.cells #[.int .u8 k1] 5)).heap.size A5 n5 k5 (([] ++ ds) ++ more) rfl hS5.len hS5.nil (hS5.below ((Below.refl _ _).alloc (Nat.le_refl _) _)).rd (by simp; omega) (by simp [maxLen]; omega) (by simp) ?_; intro v8 w8 hown8 hg8; have hB : Below w7.heap.size w7 w8 := ((Below.refl w7.heap.size w7).alloc (Nat.le_refl _) (.cells #[.int .u8 k1] 5)).grown hg8 (by simp) (by simp [Value.ownBlock]); obtain ⟨A8, n8, k8, rfl, hS8⟩ := Wd.Sl.of_own hown8; clear hg8 hown8 hS5; replace hW := hW.trans (hB.mono hW.size); replace x0 := x0.below (Wd.Bx.lt x0) hB; replace x1 := x1.below (Wd.Bx.lt x1) hB; clear hB x0a x0b x0c x0d; obtain ⟨⟨x0a, x0b, x0c, x0d⟩, -⟩ := four x0)
    | fail)
  refine (A1.out _ A8 n8 k8 hS8).mono ?_
  rintro e w9 ⟨rfl, hB⟩
  clear x0a x0b x0c x0d
  replace hW := hW.trans (hB.mono hW.size)
  replace x0 := x0.below (Wd.Bx.lt x0) hB
  replace x1 := x1.below (Wd.Bx.lt x1) hB
  clear hB
  replace x0 : Vb (w9.alloc (.cells #[.int .i64 k1, .int .i64 i1, .string s1, .bool b1] 23)) w.heap.size k1 i1 s1 b1 := Wd.Bx.alloc x0 _
  replace x1 : Vb (w9.alloc (.cells #[.int .i64 k1, .int .i64 i1, .string s1, .bool b1] 23)) w6.heap.size k1 i1 s1 b1 := Wd.Bx.alloc x1 _
  have x2 : Vb (w9.alloc (.cells #[.int .i64 k1, .int .i64 i1, .string s1, .bool b1] 23)) w9.heap.size k1 i1 s1 b1 := Wd.Bx.new _ _ _
  replace hW := hW.alloc hW.size (.cells #[.int .i64 k1, .int .i64 i1, .string s1, .bool b1] 23)
  obtain ⟨⟨x0a, x0b, x0c, x0d⟩, -⟩ := four x0
  obtain ⟨⟨x1a, x1b, x1c, x1d⟩, -⟩ := four x1
  obtain ⟨⟨x2a, x2b, x2c, x2d⟩, -⟩ := four x2
  clear x0 x1 x2 hS8 G1 A1 C1 M1
  go_wp2_with fail
  refine (G2.out _ hW).mono ?_
  rintro e w10 ⟨rfl, hB⟩
  replace hW := hW.trans (hB.mono hW.size)
  clear hB x0a x0b x0c x0d x1a x1b x1c x1d x2a x2b x2c x2d
  go_wp2_with fail
  go_ret
  exact ⟨rfl, hW.alloc hW.size _⟩
set_option maxRecDepth 100000 in
set_option maxHeartbeats 8000000 in
theorem back_ok (k1 i1 : Int) (s1 : ByteArray) (b1 : Bool) (A : Option Addr) (n c : Nat) (more : List Int) (kind : Int) (ds : List Int) (L : Nat) (yi : Int) (ys : ByteArray) (yb : Bool) (j : Nat) (w : World) (hS : Wd.Sl w .u8 A n c more)
    (C1 : Hid (∀ w', Calls Try.prog 9 #[.slice none 0 0, .agg #[.int .i64 k1, .int .i64 i1, .string s1, .bool b1]] w' (Wd.Out2 w' .u8 ds 0)))
    (M1 : Hid (∀ w', Calls Try.prog 12 #[.agg #[.int .i64 k1, .int .i64 i1, .string s1, .bool b1]] w' fun e w'' => e = .returned (.bool true) ∧ Below w'.heap.size w' w''))
    (G1 : Hid (∀ w' A' n' c', Wd.Sl w' .u8 A' n' c' (([] ++ ds) ++ more) → Calls Try.prog 16 #[.slice A' n' c', .int .i64 k1] w' fun e w'' => e = .returned (.tuple #[.agg #[.int .i64 k1, .int .i64 i1, .string s1, .bool b1], .int .i64 (L : Int), .int .i64 0]) ∧ Below w'.heap.size w' w''))
    (A1 : Hid (∀ w' A' n' c', Wd.Sl w' .u8 A' n' c' ([k1] ++ (([] ++ ds) ++ more)) → Calls Try.prog 18 #[.slice A' n' c'] w' fun e w'' => e = .returned (.tuple #[.agg #[.int .i64 k1, .int .i64 i1, .string s1, .bool b1], .int .i64 ((L : Int) + 1), .int .i64 0]) ∧ Below w'.heap.size w' w''))
    (G2 : Hid (∀ w', Below w.heap.size w w' → Calls Try.prog 16 #[.slice A n c, .int .i64 kind] w' fun e w'' => e = .returned (.tuple #[.agg #[.int .i64 kind, .int .i64 yi, .string ys, .bool yb], .int .i64 (j : Int), .int .i64 0]) ∧ Below w'.heap.size w' w''))
    (C2 : Hid (∀ w', Calls Try.prog 9 #[.slice none 0 0, .agg #[.int .i64 kind, .int .i64 yi, .string ys, .bool yb]] w' (Wd.Out2 w' .u8 (more.take j) 0)))
    (M2 : Hid (∀ w', Calls Try.prog 12 #[.agg #[.int .i64 kind, .int .i64 yi, .string ys, .bool yb]] w' fun e w'' => e = .returned (.bool true) ∧ Below w'.heap.size w' w''))
    (hj : j ≤ n)
    (hk0 : 0 ≤ k1) (hk1 : k1 ≤ 3) (hL : L = ds.length) (hL7 : L ≤ 74) (l1 : s1.size ≤ 300) (l3 : n ≤ 300) :
    Calls Try.prog 6 #[.agg #[.int .i64 k1, .int .i64 i1, .string s1, .bool b1], .slice A n c, .int .i64 kind] w fun e w' => e = .returned (.bool true) ∧ Below w.heap.size w w' := by
  obtain ⟨i0, hi, hz0, hz1, hz2⟩ := info_parts info_u8
  have g1 : ¬ (300 : Int) < (s1.size : Int) := by omega
  have g3 : ¬ (300 : Int) < (n : Int) := by omega
  have hwk : IntKind.u8.wrap k1 = k1 := by
    have : k1 = 0 ∨ k1 = 1 ∨ k1 = 2 ∨ k1 = 3 := by omega
    rcases this with rfl | rfl | rfl | rfl <;> rfl
  have hw1 : IntKind.i64.wrap ((L : Int) + 1) = (L : Int) + 1 := IntWalk.i64_in _ (by omega)
  have hcap := hS.cap
  have hmx := hS.max
  unfold maxLen at hmx
  have Hn := Lib.hid hS.len
  have hml : more.length ≤ 300 := by rw [← Hn.out]; exact l3
  have HL := Lib.hid hL
  have hdl : ds.length ≤ 74 := by rw [← HL.out]; exact hL7
  have hq1 := fun w => eq_self k1 i1 s1 b1 w
  have hq0 := fun w => eq_self 0 0 ⟨#[]⟩ false w
  clear hL
  have hW : Below w.heap.size w (w.alloc (.cells #[.int .i64 k1, .int .i64 i1, .string s1, .bool b1] 23)) := (Below.refl _ _).alloc (Nat.le_refl _) _
  have x0 : Vb (w.alloc (.cells #[.int .i64 k1, .int .i64 i1, .string s1, .bool b1] 23)) w.heap.size k1 i1 s1 b1 := Wd.Bx.new w _ _
  go_enter Try.func6, Try.ntmps6
  go_wp2_with fail
  generalize w.alloc (.cells #[.int .i64 k1, .int .i64 i1, .string s1, .bool b1] 23) = w0 at *
  refine (awake_any _).mono ?_
  rintro e w1 ⟨rfl, hB⟩
  replace hW := hW.trans (hB.mono hW.size)
  replace x0 := x0.below (Wd.Bx.lt x0) hB
  clear hB
  obtain ⟨⟨x0a, x0b, x0c, x0d⟩, -⟩ := four x0
  go_wp2_with fail
  refine (C1.out _).mono ?_
  rintro e w2 ⟨A2, n2, k2, rfl, hS2, hB⟩
  clear x0a x0b x0c x0d
  replace hW := hW.trans (hB.mono hW.size)
  replace x0 := x0.below (Wd.Bx.lt x0) hB
  clear hB
  obtain ⟨⟨x0a, x0b, x0c, x0d⟩, -⟩ := four x0
  have hn2 : n2 = L := by rw [hS2.len]; exact HL.out.symm
  subst hn2
  go_wp2_with fail
  refine (M1.out _).mono ?_
  rintro e w3 ⟨rfl, hB⟩
  replace hS2 := hS2.below hB
  clear x0a x0b x0c x0d
  replace hW := hW.trans (hB.mono hW.size)
  replace x0 := x0.below (Wd.Bx.lt x0) hB
  clear hB
  obtain ⟨⟨x0a, x0b, x0c, x0d⟩, -⟩ := four x0
  have hS1 := hS.below hW
  go_wp2_with (first
    | (at_builtin; refine Wd.wpList_app _ rfl (.const (.slice none 0 0)) (.tmp 53) 24 rfl w3.heap.size 5 i0 _ .u8 1 Try.underlying24 hi hz0 hz1 hz2 rfl (.slice none 0 0) [] rfl (World.ownsRow_nil _ _ _ _) w3.heap.size A2 n2 k2 ds rfl HL.out hS2.nil hS2.rd (by simp; omega) (by simp [maxLen]; omega) (Nat.le_refl _) ?_; intro v4 w4 hown4 hg4; have hb4 := (Below.refl w3.heap.size w3).grown hg4 (Nat.le_refl _) (by simp [Value.ownBlock]))
    | (at_builtin; refine Wd.wpList_app _ rfl (.tmp 54) (.tmp 55) 24 rfl w3.heap.size 5 i0 _ .u8 1 Try.underlying24 hi hz0 hz1 hz2 rfl v4 ([] ++ ds) rfl hown4 w4.heap.size A n c more rfl Hn.out (hS1.below hb4).nil (hS1.below hb4).rd (by simp; omega) (by simp [maxLen]; omega) hb4.size ?_; intro v5 w5 hown5 hg5; have hB : Below w3.heap.size w3 w5 := hb4.grown hg5 hb4.size fun g hg => (hown4.lt g hg).1; obtain ⟨A5, n5, k5, rfl, hS5⟩ := Wd.Sl.of_own hown5; clear hg4 hb4 hown4 hg5 hown5 hS1; replace hW := hW.trans (hB.mono hW.size); replace x0 := x0.below (Wd.Bx.lt x0) hB; clear hB x0a x0b x0c x0d; obtain ⟨⟨x0a, x0b, x0c, x0d⟩, -⟩ := four x0)
    | fail)
  refine (G1.out _ A5 n5 k5 hS5).mono ?_
  rintro e w6 ⟨rfl, hB⟩
  clear x0a x0b x0c x0d
  replace hW := hW.trans (hB.mono hW.size)
  replace x0 := x0.below (Wd.Bx.lt x0) hB
  replace hS5 := hS5.below hB
  clear hB
  have x1 : Vb (w6.alloc (.cells #[.int .i64 k1, .int .i64 i1, .string s1, .bool b1] 23)) w6.heap.size k1 i1 s1 b1 := Wd.Bx.new _ _ _
  replace x0 : Vb (w6.alloc (.cells #[.int .i64 k1, .int .i64 i1, .string s1, .bool b1] 23)) w.heap.size k1 i1 s1 b1 := Wd.Bx.alloc x0 _
  replace hS5 := hS5.below ((Below.refl w6.heap.size w6).alloc (Nat.le_refl _) (.cells #[.int .i64 k1, .int .i64 i1, .string s1, .bool b1] 23))
  replace hW := hW.alloc hW.size (.cells #[.int .i64 k1, .int .i64 i1, .string s1, .bool b1] 23)
  obtain ⟨w7, hw7⟩ : ∃ w7, w7 = w6.alloc (.cells #[.int .i64 k1, .int .i64 i1, .string s1, .bool b1] 23) := ⟨_, rfl⟩
  rw [← hw7] at x1 x0 hS5 hW
  obtain ⟨⟨x0a, x0b, x0c, x0d⟩, -⟩ := four x0
  go_upto_region 9 with fail
  rw [← hw7]
  clear hw7
  go_wp2_with (first
    | (at_builtin; refine Wd.wpList_app _ rfl (.tmp 69) (.tmp 70) 24 rfl w7.heap.size 5 i0 _ .u8 1 Try.underlying24 hi hz0 hz1 hz2 rfl (.slice (some ⟨w7.heap.size, 0, none⟩) 1 1) [k1] rfl (World.ownsRow_lit w7 #[.int .u8 k1] 1 (Nat.le_refl _) (by simp [maxLen]) rfl) (w7.alloc (.cells #[.int .u8 k1] 5)).heap.size A5 n5 k5 (([] ++ ds) ++ more) rfl hS5.len hS5.nil (hS5.below ((Below.refl _ _).alloc (Nat.le_refl _) _)).rd (by simp; omega) (by simp [maxLen]; omega) (by simp) ?_; intro v8 w8 hown8 hg8; have hB : Below w7.heap.size w7 w8 := ((Below.refl w7.heap.size w7).alloc (Nat.le_refl _) (.cells #[.int .u8 k1] 5)).grown hg8 (by simp) (by simp [Value.ownBlock]); obtain ⟨A8, n8, k8, rfl, hS8⟩ := Wd.Sl.of_own hown8; clear hg8 hown8 hS5; replace hW := hW.trans (hB.mono hW.size); replace x0 := x0.below (Wd.Bx.lt x0) hB; replace x1 := x1.below (Wd.Bx.lt x1) hB; clear hB x0a x0b x0c x0d; obtain ⟨⟨x0a, x0b, x0c, x0d⟩, -⟩ := four x0)
    | fail)
  refine (A1.out _ A8 n8 k8 hS8).mono ?_
  rintro e w9 ⟨rfl, hB⟩
  clear x0a x0b x0c x0d
  replace hW := hW.trans (hB.mono hW.size)
  replace x0 := x0.below (Wd.Bx.lt x0) hB
  replace x1 := x1.below (Wd.Bx.lt x1) hB
  clear hB
  replace x0 : Vb (w9.alloc (.cells #[.int .i64 k1, .int .i64 i1, .string s1, .bool b1] 23)) w.heap.size k1 i1 s1 b1 := Wd.Bx.alloc x0 _
  replace x1 : Vb (w9.alloc (.cells #[.int .i64 k1, .int .i64 i1, .string s1, .bool b1] 23)) w6.heap.size k1 i1 s1 b1 := Wd.Bx.alloc x1 _
  have x2 : Vb (w9.alloc (.cells #[.int .i64 k1, .int .i64 i1, .string s1, .bool b1] 23)) w9.heap.size k1 i1 s1 b1 := Wd.Bx.new _ _ _
  replace hW := hW.alloc hW.size (.cells #[.int .i64 k1, .int .i64 i1, .string s1, .bool b1] 23)
  obtain ⟨⟨x0a, x0b, x0c, x0d⟩, -⟩ := four x0
  obtain ⟨⟨x1a, x1b, x1c, x1d⟩, -⟩ := four x1
  obtain ⟨⟨x2a, x2b, x2c, x2d⟩, -⟩ := four x2
  clear x0 x1 x2 hS8 G1 A1 C1 M1
  go_wp2_with fail
  refine (G2.out _ hW).mono ?_
  rintro e w10 ⟨rfl, hB⟩
  replace hW := hW.trans (hB.mono hW.size)
  clear hB x0a x0b x0c x0d x1a x1b x1c x1d x2a x2b x2c x2d
  have x3 : Vb (w10.alloc (.cells #[.int .i64 kind, .int .i64 yi, .string ys, .bool yb] 23)) w10.heap.size kind yi ys yb := Wd.Bx.new _ _ _
  replace hW := hW.alloc hW.size (.cells #[.int .i64 kind, .int .i64 yi, .string ys, .bool yb] 23)
  go_wp2_with fail
  refine (C2.out _).mono ?_
  rintro e w11 ⟨A11, n11, k11, rfl, hS11, hB⟩
  replace hW := hW.trans (hB.mono hW.size)
  replace x3 := x3.below (Wd.Bx.lt x3) hB
  clear hB
  obtain ⟨⟨x3a, x3b, x3c, x3d⟩, -⟩ := four x3
  have hS1 := (hS.below hW).head j hj
  have hjI : ¬ (n : Int) < (j : Int) := by omega
  have hjJ : (j : Int) ≤ (c : Int) := by omega
  go_wp2_with fail
  refine (same_yes A11 A n11 j k11 c _ _ _ hS11 hS1 rfl).mono ?_
  rintro e w12 ⟨rfl, hB⟩
  clear x3a x3b x3c x3d
  replace hW := hW.trans (hB.mono hW.size)
  replace x3 := x3.below (Wd.Bx.lt x3) hB
  clear hB
  obtain ⟨⟨x3a, x3b, x3c, x3d⟩, -⟩ := four x3
  go_wp2_with fail
  refine (M2.out _).mono ?_
  rintro e w13 ⟨rfl, hB⟩
  clear x3a x3b x3c x3d
  replace hW := hW.trans (hB.mono hW.size)
  replace x3 := x3.below (Wd.Bx.lt x3) hB
  clear hB
  obtain ⟨⟨x3a, x3b, x3c, x3d⟩, -⟩ := four x3
  go_wp2_with fail
  go_ret
  exact ⟨rfl, hW⟩
set_option maxRecDepth 100000 in
set_option maxHeartbeats 4000000 in
theorem back_walk (k1 i1 : Int) (s1 : ByteArray) (b1 : Bool) (A : Option Addr) (n c : Nat) (more : List Int) (kind : Int) (w : World) (i10 : -9223372036854775808 ≤ i1) (i11 : i1 ≤ 9223372036854775807) (hS : Wd.Sl w .u8 A n c more) (hF : Wd.Fits .u8 more) (_k0 : -9223372036854775808 ≤ kind) (_k1 : kind ≤ 9223372036854775807) :
    Calls Try.prog 6 #[.agg #[.int .i64 k1, .int .i64 i1, .string s1, .bool b1], .slice A n c, .int .i64 kind] w fun e w' => e = .returned (.bool true) ∧ Below w.heap.size w w' := by
  by_cases l3 : 300 < n
  · have hW : Below w.heap.size w (w.alloc (.cells #[.int .i64 k1, .int .i64 i1, .string s1, .bool b1] 23)) := (Below.refl _ _).alloc (Nat.le_refl _) _
    have x0 : Vb (w.alloc (.cells #[.int .i64 k1, .int .i64 i1, .string s1, .bool b1] 23)) w.heap.size k1 i1 s1 b1 := Wd.Bx.new w _ _
    have g3 : (300 : Int) < (n : Int) := by omega
    clear hS hF
    go_enter Try.func6, Try.ntmps6
    go_wp2_with fail
    generalize w.alloc (.cells #[.int .i64 k1, .int .i64 i1, .string s1, .bool b1] 23) = w0 at *
    refine (awake_any _).mono ?_
    rintro e w1 ⟨rfl, hB⟩
    obtain ⟨⟨c00, c01, c02, c03⟩, -⟩ := four (x0.below (Wd.Bx.lt x0) hB)
    go_wp2_with fail
    go_ret
    exact ⟨rfl, hW.trans (hB.mono hW.size)⟩
  by_cases l1 : 300 < s1.size
  · have hW : Below w.heap.size w (w.alloc (.cells #[.int .i64 k1, .int .i64 i1, .string s1, .bool b1] 23)) := (Below.refl _ _).alloc (Nat.le_refl _) _
    have x0 : Vb (w.alloc (.cells #[.int .i64 k1, .int .i64 i1, .string s1, .bool b1] 23)) w.heap.size k1 i1 s1 b1 := Wd.Bx.new w _ _
    have g3 : ¬ (300 : Int) < (n : Int) := by omega
    have g1 : (300 : Int) < (s1.size : Int) := by omega
    clear hS hF
    go_enter Try.func6, Try.ntmps6
    go_wp2_with fail
    generalize w.alloc (.cells #[.int .i64 k1, .int .i64 i1, .string s1, .bool b1] 23) = w0 at *
    refine (awake_any _).mono ?_
    rintro e w1 ⟨rfl, hB⟩
    obtain ⟨⟨c00, c01, c02, c03⟩, -⟩ := four (x0.below (Wd.Bx.lt x0) hB)
    go_wp2_with fail
    go_ret
    exact ⟨rfl, hW.trans (hB.mono hW.size)⟩
  cases hmay : mayB k1 i1 s1 b1
  case false =>
    have hW : Below w.heap.size w (w.alloc (.cells #[.int .i64 k1, .int .i64 i1, .string s1, .bool b1] 23)) := (Below.refl _ _).alloc (Nat.le_refl _) _
    have x0 : Vb (w.alloc (.cells #[.int .i64 k1, .int .i64 i1, .string s1, .bool b1] 23)) w.heap.size k1 i1 s1 b1 := Wd.Bx.new w _ _
    have g3 : ¬ (300 : Int) < (n : Int) := by omega
    have g1 : ¬ (300 : Int) < (s1.size : Int) := by omega
    have C1 := Lib.hid fun w => Put_any none 0 0 [] k1 i1 s1 b1 w (Wd.Sl.none_ _ _) (by omega) i10 i11
    rw [show putL [] k1 i1 s1 b1 = [] by unfold putL; rw [hmay]; rfl, show putE k1 i1 s1 b1 = 1 by unfold putE; rw [hmay]; rfl] at C1
    have M1 := Lib.hid fun w => may_any k1 i1 s1 b1 w
    rw [hmay] at M1
    clear hS hF hmay
    go_enter Try.func6, Try.ntmps6
    go_wp2_with fail
    generalize w.alloc (.cells #[.int .i64 k1, .int .i64 i1, .string s1, .bool b1] 23) = w0 at *
    refine (awake_any _).mono ?_
    rintro e w1 ⟨rfl, hB⟩
    replace hW := hW.trans (hB.mono hW.size)
    replace x0 := x0.below (Wd.Bx.lt x0) hB
    clear hB
    obtain ⟨⟨c00, c01, c02, c03⟩, -⟩ := four x0
    go_wp2_with fail
    refine (C1.out _).mono ?_
    rintro e w2 ⟨A2, n2, k2, rfl, hS2, hB⟩
    replace hW := hW.trans (hB.mono hW.size)
    replace x0 := x0.below (Wd.Bx.lt x0) hB
    clear hB c00 c01 c02 c03
    obtain ⟨⟨c00, c01, c02, c03⟩, -⟩ := four x0
    have hn2 : n2 = 0 := hS2.len
    subst hn2
    clear hS2
    go_wp2_with fail
    refine (M1.out _).mono ?_
    rintro e w3 ⟨rfl, hB⟩
    replace hW := hW.trans (hB.mono hW.size)
    clear hB c00 c01 c02 c03
    go_wp2_with fail
    go_ret
    exact ⟨rfl, hW⟩
  case true =>
    have hM := (mayB_iff k1 i1 s1 b1).1 hmay
    have hB := byt_of hF
    have hpb : Nm.Byt (Va.put ⟨k1, i1, s1, b1⟩) := put_byt hM i10 i11
    have hpl := put_len hM
    have hk : 0 ≤ k1 ∧ k1 ≤ 3 := by
      unfold May at hM
      simp only [] at hM
      omega
    have C1 := Lib.hid fun w => Put_any none 0 0 [] k1 i1 s1 b1 w (Wd.Sl.none_ _ _) (by omega) i10 i11
    rw [show putL [] k1 i1 s1 b1 = Va.put ⟨k1, i1, s1, b1⟩ by unfold putL; rw [hmay]; rfl, show putE k1 i1 s1 b1 = 0 by unfold putE; rw [hmay]; rfl] at C1
    have M1 := Lib.hid fun w => may_any k1 i1 s1 b1 w
    rw [hmay] at M1
    have G1 := Lib.hid fun w' A' n' c' (h : Wd.Sl w' .u8 A' n' c' (([] ++ Va.put ⟨k1, i1, s1, b1⟩) ++ more)) => Get_any A' n' c' _ k1 w' h (byt_app hpb hB)
    have A1 := Lib.hid fun w' A' n' c' (h : Wd.Sl w' .u8 A' n' c' ([k1] ++ (([] ++ Va.put ⟨k1, i1, s1, b1⟩) ++ more))) => Any_any A' n' c' _ w' h (byt_app (fun x hx => by simp at hx; omega) (byt_app hpb hB))
    have e1 := get_put hM i10 i11 more
    have e2 := any_put hM i10 i11 more
    simp only [] at e1 e2
    rw [show ([] ++ Va.put ⟨k1, i1, s1, b1⟩) ++ more = Va.put ⟨k1, i1, s1, b1⟩ ++ more from rfl] at G1 A1
    rw [e1] at G1
    rw [show [k1] ++ (Va.put ⟨k1, i1, s1, b1⟩ ++ more) = k1 :: (Va.put ⟨k1, i1, s1, b1⟩ ++ more) from rfl, e2] at A1
    have G2 := fun w' (hb : Below w.heap.size w w') => Get_any A n c more kind w' (hS.below hb) hB
    by_cases he : (Va.get more kind).2.2 = 0
    · obtain ⟨⟨yk, yi, ys, yb⟩, j, e, hy, hyk, hj, hp, y1, y2⟩ := get_only hB kind he
      simp only [] at hyk y1 y2
      subst hyk
      rw [e] at G2
      have hym := (mayB_iff yk yi ys yb).2 hy
      have C2 := Lib.hid fun w => Put_any none 0 0 [] yk yi ys yb w (Wd.Sl.none_ _ _) (by omega) y1 y2
      rw [show putL [] yk yi ys yb = more.take j by unfold putL; rw [hym, ← hp]; rfl, show putE yk yi ys yb = 0 by unfold putE; rw [hym]; rfl] at C2
      have M2 := Lib.hid fun w => may_any yk yi ys yb w
      rw [hym] at M2
      exact back_ok k1 i1 s1 b1 A n c more yk (Va.put ⟨k1, i1, s1, b1⟩) (Va.put ⟨k1, i1, s1, b1⟩).length yi ys yb j w hS C1 M1 G1 A1 (Lib.hid G2) C2 M2 (by rw [hS.len]; exact hj) hk.1 hk.2 rfl hpl (by omega) (by omega)
    · rw [get_err more kind he] at G2
      exact back_err k1 i1 s1 b1 A n c more kind (Va.put ⟨k1, i1, s1, b1⟩) (Va.put ⟨k1, i1, s1, b1⟩).length _ w hS C1 M1 G1 A1 (Lib.hid G2) (by simpa using he) hk.1 hk.2 rfl hpl (by omega) (by omega)
end Lw
end Go.Proofs.Ytlehhjkdjachdaa
