/- What the statements of layer 9 ask of sets in memory: contracts of the calls, as one word; the chapter's example; few. -/
import Derived.Test.YtgmjafammdkgfaaDoorBsRefC
import Derived.Test.YtgmjafammdkgfaaDoorRefInts
import Derived.Test.YtgmjafammdkgfaaDoorBox
import Derived.Deep.RegionWith
import Derived.Deep.RegionHeld3
import Derived.Deep.QuietTactic
import Derived.BigQuiet
import Derived.Lib.TrailingZeros
namespace Go.Proofs.YtgmjafammdkgfaaDoor
set_option maxRecDepth 20000
open Go.RowKit
namespace Bi
open Bs Bx
/-- A call of w ended in w' with a set of X, and nothing that was there has turned. -/
def Gv (S : World → Option Addr → Nat → Nat → List Int → Prop) (w : World) (X : List Int) (e : Ending) (w' : World) : Prop := ∃ A n c, e = .returned (.agg #[.slice A n c]) ∧ S w' A n c X ∧ Below w.heap.size w w'
/-- The first so many; all, if that is below 0. -/
def hd (k : Int) (X : List Int) : List Int := if k < 0 then X else X.take k.toNat
/-- A number of the machine's. -/
def I64 (i : Int) : Prop := -9223372036854775808 ≤ i ∧ i ≤ 9223372036854775807
/-- The table of math/bits lies in its variable as the program's text lays it. -/
def Tab (w : World) : Prop := ∀ j, j < 64 → w.cell? ⟨0, j, none⟩ = some (.int .u8 (Lib.deBruijn64tab.getD j 0))
theorem Tab.below {w w' : World} (h : Tab w) (hb : Below w.heap.size w w') : Tab w' := fun j hj => (hb.cell (World.block_lt_of_cell? w _ (h j hj))).trans (h j hj)
/-- 'S w A n c X': in w the set whose one field is the slice A n c holds just X. What the calls do. -/
structure Ifc (S : World → Option Addr → Nat → Nat → List Int → Prop) : Prop where
  ok : ∀ {w A n c X}, S w A n c X → Ok X
  below : ∀ {w w' A n c X}, S w A n c X → Below w.heap.size w w' → S w' A n c X
  zero : ∀ w, S w none 0 0 []
  of_ : ∀ (A n c l w), Wd.Sl w .i64 A n c l → n ≤ 100 → Calls Tryd.prog 9 #[.slice A n c] w (Gv S w (ofL l))
  upto_ : ∀ (k : Int) (w : World), I64 k → Calls Tryd.prog 23 #[.int .i64 k] w (Gv S w (uptoL k))
  has_ : ∀ {w A n c X}, S w A n c X → ∀ i, I64 i → Calls Tryd.prog 26 #[.agg #[.slice A n c], .int .i64 i] w fun e w' => e = .returned (.bool (decide (i ∈ X))) ∧ Below w.heap.size w w'
  with_ : ∀ {w A n c X}, S w A n c X → ∀ i, I64 i → Calls Tryd.prog 13 #[.agg #[.slice A n c], .int .i64 i] w (Gv S w (withL X i))
  without_ : ∀ {w A n c X}, S w A n c X → ∀ i, I64 i → Calls Tryd.prog 15 #[.agg #[.slice A n c], .int .i64 i] w (Gv S w (withoutL X i))
  and_ : ∀ {w A n c X B m d Y}, S w A n c X → S w B m d Y → Calls Tryd.prog 17 #[.agg #[.slice A n c], .agg #[.slice B m d]] w (Gv S w (andL X Y))
  or_ : ∀ {w A n c X B m d Y}, S w A n c X → S w B m d Y → Calls Tryd.prog 19 #[.agg #[.slice A n c], .agg #[.slice B m d]] w (Gv S w (orL X Y))
  not_ : ∀ {w A n c X}, S w A n c X → ∀ k, I64 k → Calls Tryd.prog 21 #[.agg #[.slice A n c], .int .i64 k] w (Gv S w (notL X k))
  count_ : ∀ {w A n c X}, S w A n c X → Calls Tryd.prog 25 #[.agg #[.slice A n c]] w fun e w' => e = .returned (.int .i64 (X.length : Int)) ∧ Below w.heap.size w w'
  same_ : ∀ {w A n c X B m d Y}, S w A n c X → S w B m d Y → Calls Tryd.prog 28 #[.agg #[.slice A n c], .agg #[.slice B m d]] w fun e w' => e = .returned (.bool (decide (X = Y))) ∧ Below w.heap.size w w'
  list_ : ∀ {w A n c X}, S w A n c X → Tab w → ∀ k, I64 k → Calls Tryd.prog 12 #[.agg #[.slice A n c], .int .i64 k] w (Wd.Out w .i64 (hd k X))
variable {S : World → Option Addr → Nat → Nat → List Int → Prop}
theorem hd_all (X : List Int) : hd (-1) X = X := rfl
/-- The box of a set. -/
theorem box1 (w : World) (A : Option Addr) (n c : Nat) : (w.alloc (.cells #[.slice A n c] 27)).cell? ⟨w.heap.size, 0, none⟩ = some (.slice A n c) := by simp
set_option maxHeartbeats 4000000 in
/-- The chapter's example. -/
theorem awake_any (I : Ifc S) (w : World) (hTab : Tab w) : Calls Tryd.prog 7 #[] w fun e w' => e = .returned (.bool true) ∧ Below w.heap.size w w' := by
  have e1 : ofL [3, 1, 3, -1] = [1, 3] := by decide +kernel
  have e2 : notL [1, 3] 3 = [0, 2] := by decide +kernel
  have e3 : ofL [1, 3] = [1, 3] := by decide +kernel
  have C1 := fun w A (h : Wd.Sl w .i64 A 4 4 [3, 1, 3, -1]) => I.of_ _ _ _ _ w h (by omega)
  rw [e1] at C1
  have C1 := Lib.hid C1
  have Htab := Lib.hid hTab
  clear hTab
  have C2 := fun w A n c (h : S w A n c [1, 3]) (t : Tab w) => I.list_ h t (-1) ⟨by omega, by omega⟩
  rw [hd_all] at C2
  have C2 := Lib.hid C2
  have C3 := fun w A n c (h : S w A n c [1, 3]) => I.not_ h 3 ⟨by omega, by omega⟩
  rw [e2] at C3
  have C3 := Lib.hid C3
  have C4 := fun w A n c (h : S w A n c [0, 2]) (t : Tab w) => I.list_ h t (-1) ⟨by omega, by omega⟩
  rw [hd_all] at C4
  have C4 := Lib.hid C4
  have C5 := Lib.hid fun w A n c (h : S w A n c [1, 3]) => I.count_ h
  have C6 := Lib.hid fun w A n c (h : S w A n c [1, 3]) => (by have := I.has_ h 3 ⟨by omega, by omega⟩; rwa [show decide ((3 : Int) ∈ [1, 3]) = true by decide] at this : Calls Tryd.prog 26 #[.agg #[.slice A n c], .int .i64 3] w fun e w' => e = .returned (.bool true) ∧ Below w.heap.size w w')
  have C7 := fun w A (h : Wd.Sl w .i64 A 2 2 [1, 3]) => I.of_ _ _ _ _ w h (by omega)
  rw [e3] at C7
  have C7 := Lib.hid C7
  have C8 := Lib.hid fun w A n c B m d (h : S w A n c [1, 3]) (k : S w B m d [1, 3]) => (by have := I.same_ h k; rwa [decide_eq_true rfl] at this : Calls Tryd.prog 28 #[.agg #[.slice A n c], .agg #[.slice B m d]] w fun e w' => e = .returned (.bool true) ∧ Below w.heap.size w w')
  clear e1 e2 e3
  go_enter Tryd.func7, Tryd.ntmps7
  go_wp2_with fail
  refine (C1.out _ _ (Wd.Sl.lit w .i64 [3, 1, 3, -1] 3 _ 4 rfl rfl (by decide))).mono ?_
  rintro e w1 ⟨A, n, c, rfl, hS1, hB1⟩
  have hb1 : Below w.heap.size w w1 := ((Below.refl _ w).alloc (Nat.le_refl _) _).trans (hB1.mono (by simp))
  have hbx := (Below.refl w1.heap.size w1).alloc (Nat.le_refl _) (.cells #[.slice A n c] 27)
  have hS2 := I.below hS1 hbx
  have c0 := box1 w1 A n c
  have hb2 := hb1.trans (hbx.mono hb1.size)
  have hl0 : w1.heap.size < (w1.alloc (.cells #[.slice A n c] 27)).heap.size := by simp
  clear hS1 hB1 hbx hb1 C1
  go_wp2_with fail
  generalize w1.alloc (.cells #[.slice A n c] 27) = w2 at *
  generalize w1.heap.size = B at *
  refine (C2.out _ _ _ _ hS2 (Htab.out.below hb2)).mono ?_
  rintro e w3 ⟨A3, n3, c3, rfl, hL3, hB3⟩
  have hb3 := hb2.trans (hB3.mono hb2.size)
  have hS3 := I.below hS2 hB3
  have c1 := (hB3.cell (p := ⟨B, 0, none⟩) hl0).trans c0
  have hl1 := Nat.lt_of_lt_of_le hl0 hB3.size
  obtain rfl : n3 = 2 := hL3.len
  clear hB3 hb2 hS2 c0 hl0 C2
  go_wp2_with fail
  refine (Nc.ints_yes A3 _ 2 2 c3 2 [1, 3] [1, 3] _ (hL3.below ((Below.refl _ _).alloc (Nat.le_refl _) _)) (Wd.Sl.lit w3 .i64 [1, 3] 3 _ 2 rfl rfl (by decide)) rfl).mono ?_
  rintro e w4 ⟨rfl, hB4⟩
  have hx4 : Below w3.heap.size w3 w4 := ((Below.refl _ w3).alloc (Nat.le_refl _) _).trans (hB4.mono (by simp))
  have hb4 := hb3.trans (hx4.mono hb3.size)
  have hS4 := I.below hS3 hx4
  have c2 := (hx4.cell (p := ⟨B, 0, none⟩) hl1).trans c1
  have hl2 := Nat.lt_of_lt_of_le hl1 hx4.size
  clear hL3 hB4 hx4 hb3 hS3 c1 hl1
  go_wp2_with fail
  refine (C3.out _ _ _ _ hS4).mono ?_
  rintro e w5 ⟨A5, n5, c5, rfl, hS5, hB5⟩
  go_wp2_with fail
  refine (C4.out _ _ _ _ hS5 (Htab.out.below (hb4.trans (hB5.mono hb4.size)))).mono ?_
  rintro e w6 ⟨A6, n6, c6, rfl, hL6, hB6⟩
  have hx6 := hB5.trans (hB6.mono hB5.size)
  have hb6 := hb4.trans (hx6.mono hb4.size)
  have hS6 := I.below hS4 hx6
  have c3' := (hx6.cell (p := ⟨B, 0, none⟩) hl2).trans c2
  have hl3 := Nat.lt_of_lt_of_le hl2 hx6.size
  obtain rfl : n6 = 2 := hL6.len
  clear hS5 hB5 hB6 hx6 hb4 hS4 c2 hl2 C3 C4
  go_wp2_with fail
  refine (Nc.ints_yes A6 _ 2 2 c6 2 [0, 2] [0, 2] _ (hL6.below ((Below.refl _ _).alloc (Nat.le_refl _) _)) (Wd.Sl.lit w6 .i64 [0, 2] 3 _ 2 rfl rfl (by decide)) rfl).mono ?_
  rintro e w7 ⟨rfl, hB7⟩
  have hx7 : Below w6.heap.size w6 w7 := ((Below.refl _ w6).alloc (Nat.le_refl _) _).trans (hB7.mono (by simp))
  have hb7 := hb6.trans (hx7.mono hb6.size)
  have HS7 := Lib.hid (I.below hS6 hx7)
  have Hc7 := Lib.hid ((hx7.cell (p := ⟨B, 0, none⟩) hl3).trans c3')
  have Hl7 := Lib.hid (Nat.lt_of_lt_of_le hl3 hx7.size)
  clear hL6 hB7 hx7 hb6 hS6 c3' hl3
  go_wp2_with fail
  have hb := (Below.refl w7.heap.size w7).drew
  have z10 := (hb.cell (p := ⟨B, 0, none⟩) Hl7.out).trans Hc7.out
  go_region_held3 (fun w' => w'.cell? ⟨B, 0, none⟩ = some (.slice A n c)) (first | exact z10 | go_keep) (first
    | (go_at_call 25; (with_reducible refine (C5.out _ _ _ _ (I.below HS7.out hb)).mono ?_); rintro e wz ⟨rfl, hBz⟩; have hb := hb.trans (hBz.mono hb.size); have z10 := (hb.cell (p := ⟨B, 0, none⟩) Hl7.out).trans Hc7.out)
    | (go_at_call 26; (with_reducible refine (C6.out _ _ _ _ (I.below HS7.out hb)).mono ?_); rintro e wz ⟨rfl, hBz⟩; have hb := hb.trans (hBz.mono hb.size); have z10 := (hb.cell (p := ⟨B, 0, none⟩) Hl7.out).trans Hc7.out)
    | (go_at_call 9; refine (C7.out _ _ (Wd.Sl.lit _ .i64 [1, 3] 3 _ 2 rfl rfl (by decide))).mono ?_; rintro e wz ⟨A8, n8, c8, rfl, hS8, hBz⟩; have hb := hb.trans ((((Below.refl _ _).alloc (Nat.le_refl _) _).trans (hBz.mono (by simp))).mono hb.size); have z10 := (hb.cell (p := ⟨B, 0, none⟩) Hl7.out).trans Hc7.out)
    | (go_at_call 28; refine (C8.out _ _ _ _ _ _ _ (I.below HS7.out hb) hS8).mono ?_; rintro e wz ⟨rfl, hBz⟩; have hb := hb.trans (hBz.mono hb.size); have z10 := (hb.cell (p := ⟨B, 0, none⟩) Hl7.out).trans Hc7.out))
  all_goals (
    go_wp2_with fail
    go_ret
    exact ⟨rfl, hb7.trans (hb.mono hb7.size)⟩)
end Bi
end Go.Proofs.YtgmjafammdkgfaaDoor
