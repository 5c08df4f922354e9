/- slices.SortStableFunc of a row of numbers that rise: sorted by the comparison, and where it knows no difference as they stood. What cmp.Compare does at numbers, texts and bytes, and cmp.Or. What value.Order does. -/
import Derived.WalkKit
import Derived.Lib.Hide
import Derived.WalkLawsBesides
import Derived.WalkSpells
import Derived.BigRegion
import Derived.Deep.RegionHeld3
import Derived.Deep.RegionWith
import Derived.Deep.DeepCutAuto
import Derived.StillTailTactics
import Derived.BigQuiet
import Derived.Deep.QuietTactic
import Derived.Test.YtoibpbnebcoafaaGreatPk18
import Derived.Test.YtoibpbnebcoafaaGreatProg
import Derived.Test.YtoibpbnebcoafaaGreatPk09
import Derived.Test.YtoibpbnebcoafaaGreatPk08
namespace Go.Proofs.YtoibpbnebcoafaaGreat
set_option maxRecDepth 20000
open Go.RowKit Go.Sort
namespace Ssm
theorem merge_none {cf : Nat → Nat → Int} {O : List Nat} {n B q : Nat} (hB : 0 < B) (hq : n ≤ q * (2 * B) + B) (hq2 : q * (2 * B) ≤ n) (hn : n = O.length) : chs cf (2 * B) (O.take (q * (2 * B))) ++ chs cf B (O.drop (q * (2 * B))) = chs cf (2 * B) O := by
  have lt : (O.take (q * (2 * B))).length = q * (2 * B) := by rw [List.length_take]; omega
  have := chs_append cf (B := 2 * B) (by omega) (O.drop (q * (2 * B))) q _ lt
  rw [List.take_append_drop] at this
  rw [this, chs_short cf (B := B) (l := O.drop (q * (2 * B))) (by rw [List.length_drop]; omega), chs_short cf (B := 2 * B) (l := O.drop (q * (2 * B))) (by rw [List.length_drop]; omega)]
section
variable {f : Nat} {cap : Array Value} {cf : Nat → Nat → Int} (W : Wk cf) {g N : Nat} {w0 : World} (C : Cmp f cap cf g N w0) {O : List Nat} (hO : O.Pairwise (· ≤ ·)) {n c : Nat} (hn : n = O.length) (hm : n ≤ 100000000) {w : World}
include W C hO hn hm
/-- A piece of 20 is sorted. -/
theorem first_step {q : Nat} (hq : q * 20 + 20 ≤ n) (h : Sw w0 g N (chs cf 20 (O.take (q * 20)) ++ O.drop (q * 20)) w) :
    Calls Tryz.prog 109 #[.slice (some ⟨g, 0, none⟩) n c, .int .i64 ((q * 20 : Nat) : Int), .int .i64 ((q * 20 + 20 : Nat) : Int), .func (.func f) #[] cap] w fun e w' => e = .returned (.tuple #[]) ∧ Sw w0 g N (chs cf 20 (O.take (q * 20 + 20)) ++ O.drop (q * 20 + 20)) w' := by
  have e1 : O.drop (q * 20) = (O.drop (q * 20)).take 20 ++ O.drop (q * 20 + 20) := by
    rw [← List.drop_drop, List.take_append_drop]
  have lt : (O.take (q * 20)).length = q * 20 := by rw [List.length_take]; omega
  have e2 : O.take (q * 20 + 20) = O.take (q * 20) ++ (O.drop (q * 20)).take 20 := List.take_add ..
  rw [e1] at h
  rw [e2, chs_append cf (by decide) _ q _ lt, chs_short cf (l := (O.drop (q * 20)).take 20) (by rw [List.length_take]; omega), List.append_assoc]
  exact insertion_any W C _ _ _ _ _ n c w (by rw [chs_len cf (by decide), lt]) (by rw [List.length_take, List.length_drop]; omega) (List.Pairwise.sublist ((List.take_sublist _ _).trans (List.drop_sublist _ _)) hO)
    (by rw [← e1, List.length_append, chs_len cf (by decide), lt, List.length_drop]; omega) (by omega) h
/-- The last piece of 20, or fewer. -/
theorem first_last {q : Nat} (hq : q * 20 ≤ n) (hq2 : n ≤ q * 20 + 20) (h : Sw w0 g N (chs cf 20 (O.take (q * 20)) ++ O.drop (q * 20)) w) :
    Calls Tryz.prog 109 #[.slice (some ⟨g, 0, none⟩) n c, .int .i64 ((q * 20 : Nat) : Int), .int .i64 (n : Int), .func (.func f) #[] cap] w fun e w' => e = .returned (.tuple #[]) ∧ Sw w0 g N (chs cf 20 O) w' := by
  have lt : (O.take (q * 20)).length = q * 20 := by rw [List.length_take]; omega
  have e : chs cf 20 O = chs cf 20 (O.take (q * 20)) ++ (srt cf (O.drop (q * 20)) ++ []) := by
    have := chs_append cf (B := 20) (by decide) (O.drop (q * 20)) q _ lt
    rw [List.take_append_drop] at this
    rw [this, chs_short cf (l := O.drop (q * 20)) (by rw [List.length_drop]; omega), List.append_nil]
  rw [e]
  rw [show O.drop (q * 20) = O.drop (q * 20) ++ [] by simp] at h
  exact insertion_any W C _ _ _ _ _ n c w (by rw [chs_len cf (by decide), lt]) (by rw [List.length_drop]; omega) (List.Pairwise.sublist (List.drop_sublist _ _) hO)
    (by rw [List.append_nil, List.length_append, chs_len cf (by decide), lt, List.length_drop]; omega) (by omega) h
/-- Two pieces of B become one. -/
theorem merge_step {B q : Nat} (hB : 0 < B) (hq : q * (2 * B) + 2 * B ≤ n) (h : Sw w0 g N (chs cf (2 * B) (O.take (q * (2 * B))) ++ chs cf B (O.drop (q * (2 * B)))) w) :
    Calls Tryz.prog 110 #[.slice (some ⟨g, 0, none⟩) n c, .int .i64 ((q * (2 * B) : Nat) : Int), .int .i64 ((q * (2 * B) + B : Nat) : Int), .int .i64 ((q * (2 * B) + 2 * B : Nat) : Int), .func (.func f) #[] cap] w fun e w' => e = .returned (.tuple #[]) ∧
      Sw w0 g N (chs cf (2 * B) (O.take (q * (2 * B) + 2 * B)) ++ chs cf B (O.drop (q * (2 * B) + 2 * B))) w' := by
  generalize ha : q * (2 * B) = a at *
  have lt : (O.take a).length = q * (2 * B) := by rw [List.length_take]; omega
  obtain ⟨D, hD⟩ : ∃ D, D = O.drop a := ⟨_, rfl⟩
  have lD : D.length = n - a := by rw [hD, List.length_drop, hn]
  have h1 : D.take (2 * B) = D.take B ++ (D.drop B).take B := by rw [show 2 * B = B + B by omega]; exact List.take_add ..
  have h2 : D.drop (2 * B) = (D.drop B).drop B := by rw [List.drop_drop, show 2 * B = B + B by omega]
  have e1 : chs cf B D = srt cf (D.take B) ++ (srt cf ((D.drop B).take B) ++ chs cf B (D.drop (2 * B))) := by
    rw [chs_step cf hB (l := D) (by intro e; rw [e] at lD; simp at lD; omega), chs_step cf hB (l := D.drop B) (by intro e; have := congrArg List.length e; rw [List.length_drop] at this; simp at this; omega), ← h2]
  have e2 : O.take (a + 2 * B) = O.take a ++ D.take (2 * B) := by rw [hD]; exact List.take_add ..
  have e3 : O.drop (a + 2 * B) = D.drop (2 * B) := by rw [hD, List.drop_drop]
  have hDO : D.Pairwise (· ≤ ·) := hD ▸ List.Pairwise.sublist (List.drop_sublist _ _) hO
  rw [← hD, e1] at h
  have cross : ∀ x ∈ srt cf (D.take B), ∀ y ∈ srt cf ((D.drop B).take B), x ≤ y := fun x hx y hy => by
    have hx' := srt_mem.1 hx
    have hy' := List.mem_of_mem_take (srt_mem.1 hy)
    have := hDO
    rw [← List.take_append_drop B D] at this
    exact (List.pairwise_append.1 this).2.2 x hx' y hy'
  rw [e2, e3, chs_append cf (by omega) _ q _ lt, chs_short cf (B := 2 * B) (l := D.take (2 * B)) (by rw [List.length_take]; omega), h1, ← srt_two W, List.append_assoc]
  exact sym_any W C _ _ _ _ _ a (a + B) (a + 2 * B) n c w (Nat.le_refl _) (by rw [chs_len cf (by omega), lt, ha]) (by rw [srt_len, List.length_take]; omega) (by rw [srt_len, List.length_take, List.length_drop]; omega)
    (by rw [srt_len, List.length_take]; omega) (by rw [srt_len, List.length_take, List.length_drop]; omega) (srt_so W _) (srt_so W _) cross
    (by rw [← e1, List.length_append, chs_len cf (by omega), chs_len cf hB, lt, lD, ha]; omega) (by omega) h
/-- One piece of B and the rest. -/
theorem merge_last {B q : Nat} (hB : 0 < B) (hq : q * (2 * B) + B < n) (hq2 : n < q * (2 * B) + 2 * B) (h : Sw w0 g N (chs cf (2 * B) (O.take (q * (2 * B))) ++ chs cf B (O.drop (q * (2 * B)))) w) :
    Calls Tryz.prog 110 #[.slice (some ⟨g, 0, none⟩) n c, .int .i64 ((q * (2 * B) : Nat) : Int), .int .i64 ((q * (2 * B) + B : Nat) : Int), .int .i64 (n : Int), .func (.func f) #[] cap] w fun e w' => e = .returned (.tuple #[]) ∧ Sw w0 g N (chs cf (2 * B) O) w' := by
  generalize ha : q * (2 * B) = a at *
  have lt : (O.take a).length = q * (2 * B) := by rw [List.length_take]; omega
  obtain ⟨D, hD⟩ : ∃ D, D = O.drop a := ⟨_, rfl⟩
  have lD : D.length = n - a := by rw [hD, List.length_drop, hn]
  have e1 : chs cf B D = srt cf (D.take B) ++ (srt cf (D.drop B) ++ []) := by
    rw [chs_step cf hB (l := D) (by intro e; rw [e] at lD; simp at lD; omega), chs_short cf (l := D.drop B) (by rw [List.length_drop]; omega), List.append_nil]
  have hDO : D.Pairwise (· ≤ ·) := hD ▸ List.Pairwise.sublist (List.drop_sublist _ _) hO
  have cross : ∀ x ∈ srt cf (D.take B), ∀ y ∈ srt cf (D.drop B), x ≤ y := fun x hx y hy => by
    have := hDO
    rw [← List.take_append_drop B D] at this
    exact (List.pairwise_append.1 this).2.2 x (srt_mem.1 hx) y (srt_mem.1 hy)
  have e : chs cf (2 * B) O = chs cf (2 * B) (O.take a) ++ (srt cf (srt cf (D.take B) ++ srt cf (D.drop B)) ++ []) := by
    have := chs_append cf (B := 2 * B) (by omega) D q _ lt
    rw [hD, List.take_append_drop] at this
    rw [this, ← hD, chs_short cf (B := 2 * B) (l := D) (by omega), srt_two W, List.take_append_drop, List.append_nil]
  rw [← hD, e1] at h
  rw [e]
  exact sym_any W C _ _ _ _ _ a (a + B) n n c w (Nat.le_refl _) (by rw [chs_len cf (by omega), lt, ha]) (by rw [srt_len, List.length_take]; omega) (by rw [srt_len, List.length_drop]; omega)
    (by rw [srt_len, List.length_take]; omega) (by rw [srt_len, List.length_drop]; omega) (srt_so W _) (srt_so W _) cross
    (by rw [← e1, List.length_append, chs_len cf (by omega), chs_len cf hB, lt, lD, ha]; omega) (by omega) h
end
set_option maxHeartbeats 8000000 in
theorem stable_any {f : Nat} {cap : Array Value} {cf : Nat → Nat → Int} (W : Wk cf) {g N : Nat} {w0 : World} (C : Cmp f cap cf g N w0) {O : List Nat} (hO : O.Pairwise (· ≤ ·)) {n c : Nat} (hn : n = O.length) (hm : n ≤ 100000000) {w : World} (h : Sw w0 g N O w) :
    Calls Tryz.prog 86 #[.slice (some ⟨g, 0, none⟩) n c, .int .i64 (n : Int), .func (.func f) #[] cap] w fun e w' => e = .returned (.tuple #[]) ∧ Sw w0 g N (srt cf O) w' := by
  have F1 := Lib.hid (fun q w' (h1 : q * 20 + 20 ≤ n) (h2 : Sw w0 g N (chs cf 20 (O.take (q * 20)) ++ O.drop (q * 20)) w') => first_step (c := c) W C hO hn hm h1 h2)
  have F2 := Lib.hid (fun q w' (h0 : q * 20 ≤ n) (h1 : n ≤ q * 20 + 20) (h2 : Sw w0 g N (chs cf 20 (O.take (q * 20)) ++ O.drop (q * 20)) w') => first_last (c := c) W C hO hn hm h0 h1 h2)
  have F3 := Lib.hid (fun B q w' (h0 : 0 < B) (h1 : q * (2 * B) + 2 * B ≤ n) (h2 : Sw w0 g N (chs cf (2 * B) (O.take (q * (2 * B))) ++ chs cf B (O.drop (q * (2 * B)))) w') => merge_step (c := c) W C hO hn hm h0 h1 h2)
  have F4 := Lib.hid (fun B q w' (h0 : 0 < B) (h1 : q * (2 * B) + B < n) (h3 : n < q * (2 * B) + 2 * B) (h2 : Sw w0 g N (chs cf (2 * B) (O.take (q * (2 * B))) ++ chs cf B (O.drop (q * (2 * B)))) w') => merge_last (c := c) W C hO hn hm h0 h1 h3 h2)
  have F5 := Lib.hid (fun B q w' (h0 : 0 < B) (h1 : n ≤ q * (2 * B) + B) (h3 : q * (2 * B) ≤ n) (h2 : Sw w0 g N (chs cf (2 * B) (O.take (q * (2 * B))) ++ chs cf B (O.drop (q * (2 * B)))) w') => (merge_none (cf := cf) h0 h1 h3 hn ▸ h2 : Sw w0 g N (chs cf (2 * B) O) w'))
  have F6 := Lib.hid (fun B w' (h0 : n ≤ B) (h2 : Sw w0 g N (chs cf B O) w') => (chs_short cf (hn ▸ h0) ▸ h2 : Sw w0 g N (srt cf O) w'))
  have H0 := Lib.hid (show Sw w0 g N (chs cf 20 (O.take (0 * 20)) ++ O.drop (0 * 20)) w by simpa [chs_nil] using h)
  have H1 := Lib.hid (fun B w' (h2 : Sw w0 g N (chs cf B O) w') => (show Sw w0 g N (chs cf (2 * B) (O.take (0 * (2 * B))) ++ chs cf B (O.drop (0 * (2 * B)))) w' by simpa [chs_nil] using h2))
  clear h C hO hn W
  go_enter Tryz.func86, Tryz.ntmps86
  go_wp2_with fail
  go_loopw [7, 8] (fun va vb wr => ∃ (q a b : Nat), va = .int .i64 a ∧ vb = .int .i64 b ∧ Hid (a = q * 20 ∧ b = a + 20) ∧ a ≤ n ∧ b ≤ n + 20 ∧ a + 20 ≤ b ∧ b ≤ a + 20 ∧ Hid (Sw w0 g N (chs cf 20 (O.take (q * 20)) ++ O.drop (q * 20)) wr)) (fun va _ _ => n + 20 - (intOf va).toNat)
  case atStart => exact ⟨0, 0, 20, rfl, rfl, ⟨rfl, rfl⟩, Nat.zero_le _, by omega, by omega, by omega, H0⟩
  case round =>
    obtain ⟨q, a, b, rfl, rfl, hab, han, hbn, hab1, hab2, HS⟩ := hrel
    by_cases hlt : b ≤ n
    · have hI : (b : Int) ≤ (n : Int) := by omega
      have hc := F1.out q wr (by have := hab.out; omega) HS.out
      rw [← hab.out.1, ← hab.out.2] at hc
      have Hc := Lib.hid hc
      have e2 := Lib.hid (show b = (q + 1) * 20 by have := hab.out; omega)
      clear HS hc
      go_wp2_with fail
      refine Hc.out.mono ?_
      rintro e w' ⟨rfl, h1⟩
      rw [e2.out] at h1
      have h1' := Lib.hid h1
      clear h1 Hc
      go_wp2_with fail
      go_roundw
      case rel => exact ⟨q + 1, b, b + 20, rfl, by go_num, ⟨e2.out, rfl⟩, by omega, by omega, by omega, by omega, h1'⟩
      case measure => simp [intOf]; omega
    · have hI : ¬ (b : Int) ≤ (n : Int) := by omega
      have hc := F2.out q wr (by have := hab.out; omega) (by have := hab.out; omega) HS.out
      rw [← hab.out.1] at hc
      have Hc := Lib.hid hc
      clear HS hc
      go_wp2_with fail
      refine Hc.out.mono ?_
      rintro e w' ⟨rfl, h1⟩
      have h1' := Lib.hid h1
      clear h1 Hc F1 F2 H0 hab han hbn hab1 hab2 hlt hI
      go_wp2_with fail
      go_loopw [6] (fun vB wr => ∃ (B : Nat), vB = .int .i64 B ∧ 0 < B ∧ B ≤ 300000000 ∧ Hid (Sw w0 g N (chs cf B O) wr)) (fun vB _ => n - (intOf vB).toNat)
      case atStart => exact ⟨20, rfl, by omega, by omega, h1'⟩
      case round =>
        clear h1'
        obtain ⟨B, rfl, hB0, hBm, HS⟩ := hrel
        by_cases hlt : B < n
        · have hI : (B : Int) < (n : Int) := by omega
          have S0 := Lib.hid (H1.out B _ HS.out)
          clear HS
          obtain ⟨BB, hBB⟩ : ∃ BB : Nat, BB = 2 * B := ⟨_, rfl⟩
          have zB : 2 * (B : Int) = (BB : Int) := by omega
          have HBB := Lib.hid hBB
          have hBB2 : BB ≤ 2 * B ∧ 2 * B ≤ BB := by omega
          rw [← hBB] at S0
          clear hBB
          go_wp2_with fail
          obtain ⟨w9, rfl⟩ : ∃ w9 : World, w9 = wr := ⟨_, rfl⟩
          go_loopw [7, 8] (fun va vb wr => ∃ (q a b : Nat), va = .int .i64 a ∧ vb = .int .i64 b ∧ Hid (a = q * BB ∧ b = a + BB) ∧ a ≤ n ∧ a + BB ≤ b ∧ b ≤ a + BB ∧ Hid (Sw w0 g N (chs cf BB (O.take (q * BB)) ++ chs cf B (O.drop (q * BB))) wr)) (fun va _ _ => n - (intOf va).toNat)
          case atStart => exact ⟨0, 0, BB, rfl, rfl, ⟨by simp, by simp⟩, Nat.zero_le _, by omega, by omega, S0⟩
          case round =>
            clear S0
            obtain ⟨q, a, b, rfl, rfl, hab, han, hab1, hab2, HS⟩ := hrel
            have hqa : Hid (q * (2 * B) = a) := by have := hab.out.1; rw [HBB.out] at this; exact Lib.hid this.symm
            by_cases hlt2 : b ≤ n
            · have hI2 : (b : Int) ≤ (n : Int) := by omega
              have hc := F3.out B q wr hB0 (by have := hqa.out; omega) (by have := HS.out; rw [HBB.out] at this; exact this)
              rw [hqa.out, ← HBB.out, ← hab.out.2] at hc
              have e2 := Lib.hid (show b = (q + 1) * BB by have := hab.out; rw [Nat.add_mul]; omega)
              have Hc := Lib.hid hc
              have ra : ((a + B : Nat) : Int) = (a : Int) + (B : Int) := by omega
              rw [ra] at Hc
              clear HS hc ra
              go_wp2_with fail
              refine Hc.out.mono ?_
              rintro e w' ⟨rfl, h1⟩
              rw [e2.out] at h1
              have h1' := Lib.hid h1
              clear h1 Hc
              go_wp2_with fail
              go_roundw
              case rel => exact ⟨q + 1, b, b + BB, rfl, by go_num, ⟨e2.out, rfl⟩, by omega, by omega, by omega, h1'⟩
              case measure => simp [intOf]; omega
            · have hI2 : ¬ (b : Int) ≤ (n : Int) := by omega
              by_cases hlt3 : a + B < n
              · have hI3 : (a : Int) + (B : Int) < (n : Int) := by omega
                have hc := F4.out B q wr hB0 (by have := hqa.out; omega) (by have := hqa.out; omega) (by have := HS.out; rw [HBB.out] at this; exact this)
                rw [hqa.out, ← HBB.out] at hc
                have Hc := Lib.hid hc
                have ra : ((a + B : Nat) : Int) = (a : Int) + (B : Int) := by omega
                rw [ra] at Hc
                clear HS hc ra
                go_wp2_with fail
                refine Hc.out.mono ?_
                rintro e w' ⟨rfl, h1⟩
                have h1' := Lib.hid h1
                clear h1 Hc
                have zB' : (B : Int) * 2 = (BB : Int) := by omega
                go_wp2_with fail
                go_roundw
                case rel => exact ⟨BB, rfl, by omega, by omega, h1'⟩
                case measure => simp [intOf]; omega
              · have hI3 : ¬ (a : Int) + (B : Int) < (n : Int) := by omega
                have h1 := F5.out B q wr hB0 (by have := hqa.out; omega) (by have := hqa.out; omega) (by have := HS.out; rw [HBB.out] at this; exact this)
                rw [← HBB.out] at h1
                have h1' := Lib.hid h1
                clear h1 HS
                have zB' : (B : Int) * 2 = (BB : Int) := by omega
                go_wp2_with fail
                go_roundw
                case rel => exact ⟨BB, rfl, by omega, by omega, h1'⟩
                case measure => simp [intOf]; omega
        · have hI : ¬ (B : Int) < (n : Int) := by omega
          have h1 := Lib.hid (F6.out B _ (by omega) HS.out)
          clear HS
          go_wp2_with fail
          go_end0
          exact ⟨rfl, h1.out⟩
theorem sortStable_any {f : Nat} {cap : Array Value} {cf : Nat → Nat → Int} (W : Wk cf) {g N : Nat} {w0 : World} (C : Cmp f cap cf g N w0) {O : List Nat} (hO : O.Pairwise (· ≤ ·)) {n c : Nat} (hn : n = O.length) (hm : n ≤ 100000000) {w : World} (h : Sw w0 g N O w) :
    Calls Tryz.prog 60 #[.slice (some ⟨g, 0, none⟩) n c, .func (.func f) #[] cap] w fun e w' => e = .returned (.tuple #[]) ∧ Sw w0 g N (srt cf O) w' := by
  have Hc := Lib.hid (stable_any (c := c) W C hO hn hm h)
  clear h C hO hn W
  go_enter Tryz.func60, Tryz.ntmps60
  go_wp2_with fail
  refine Hc.out.mono ?_
  rintro e w' ⟨rfl, h1⟩
  go_wp2_with fail
  go_end0
  exact ⟨rfl, h1⟩
end Ssm
end Go.Proofs.YtoibpbnebcoafaaGreat
namespace Go.Proofs.YtoibpbnebcoafaaGreat
set_option maxRecDepth 20000
open Go.RowKit
namespace Vc
open Va
theorem nanI_any (x : Int) (w : World) :
    Calls Tryz.prog 106 #[.int .i64 x] w fun e w' => e = .returned (.bool false) ∧ w' = w := by
  go_enter Tryz.func106, Tryz.ntmps106
  go_wp2_with fail
  go_ret
  exact ⟨by simp, rfl⟩
theorem nanB_any (x : Int) (w : World) :
    Calls Tryz.prog 136 #[.int .u8 x] w fun e w' => e = .returned (.bool false) ∧ w' = w := by
  go_enter Tryz.func136, Tryz.ntmps136
  go_wp2_with fail
  go_ret
  exact ⟨by simp, rfl⟩
theorem nanS_any (x : ByteArray) (w : World) :
    Calls Tryz.prog 135 #[.string x] w fun e w' => e = .returned (.bool false) ∧ w' = w := by
  go_enter Tryz.func135, Tryz.ntmps135
  go_wp2_with fail
  go_ret
  exact ⟨by simp, rfl⟩
theorem cmpI_any (x y : Int) (w : World) :
    Calls Tryz.prog 78 #[.int .i64 x, .int .i64 y] w fun e w' => e = .returned (.int .i64 (cmpI x y)) ∧ w' = w := by
  have n1 := nanI_any x w
  have n2 := nanI_any y w
  by_cases h1 : x < y
  · have e : cmpI x y = -1 := by unfold cmpI; simp [h1, way]
    rw [e]
    go_enter Tryz.func78, Tryz.ntmps78
    go_wp2_with fail
    refine n1.mono ?_
    rintro _ _ ⟨rfl, rfl⟩
    go_wp2_with fail
    refine n2.mono ?_
    rintro _ _ ⟨rfl, rfl⟩
    go_wp2_with fail
    go_ret
    exact ⟨rfl, rfl⟩
  by_cases h2 : y < x
  · have e : cmpI x y = 1 := by unfold cmpI; simp [h1, h2, way]
    rw [e]
    go_enter Tryz.func78, Tryz.ntmps78
    go_wp2_with fail
    refine n1.mono ?_
    rintro _ _ ⟨rfl, rfl⟩
    go_wp2_with fail
    refine n2.mono ?_
    rintro _ _ ⟨rfl, rfl⟩
    go_wp2_with fail
    go_ret
    exact ⟨rfl, rfl⟩
  · have e : cmpI x y = 0 := by unfold cmpI; simp [h1, h2, way]
    rw [e]
    go_enter Tryz.func78, Tryz.ntmps78
    go_wp2_with fail
    refine n1.mono ?_
    rintro _ _ ⟨rfl, rfl⟩
    go_wp2_with fail
    refine n2.mono ?_
    rintro _ _ ⟨rfl, rfl⟩
    go_wp2_with fail
    go_ret
    exact ⟨rfl, rfl⟩
theorem cmpD_any (x y : Int) (w : World) :
    Calls Tryz.prog 112 #[.int .u8 x, .int .u8 y] w fun e w' => e = .returned (.int .i64 (cmpI x y)) ∧ w' = w := by
  have n1 := nanB_any x w
  have n2 := nanB_any y w
  by_cases h1 : x < y
  · have e : cmpI x y = -1 := by unfold cmpI; simp [h1, way]
    rw [e]
    go_enter Tryz.func112, Tryz.ntmps112
    go_wp2_with fail
    refine n1.mono ?_
    rintro _ _ ⟨rfl, rfl⟩
    go_wp2_with fail
    refine n2.mono ?_
    rintro _ _ ⟨rfl, rfl⟩
    go_wp2_with fail
    go_ret
    exact ⟨rfl, rfl⟩
  by_cases h2 : y < x
  · have e : cmpI x y = 1 := by unfold cmpI; simp [h1, h2, way]
    rw [e]
    go_enter Tryz.func112, Tryz.ntmps112
    go_wp2_with fail
    refine n1.mono ?_
    rintro _ _ ⟨rfl, rfl⟩
    go_wp2_with fail
    refine n2.mono ?_
    rintro _ _ ⟨rfl, rfl⟩
    go_wp2_with fail
    go_ret
    exact ⟨rfl, rfl⟩
  · have e : cmpI x y = 0 := by unfold cmpI; simp [h1, h2, way]
    rw [e]
    go_enter Tryz.func112, Tryz.ntmps112
    go_wp2_with fail
    refine n1.mono ?_
    rintro _ _ ⟨rfl, rfl⟩
    go_wp2_with fail
    refine n2.mono ?_
    rintro _ _ ⟨rfl, rfl⟩
    go_wp2_with fail
    go_ret
    exact ⟨rfl, rfl⟩
theorem cmpS_any (x y : ByteArray) (w : World) :
    Calls Tryz.prog 111 #[.string x, .string y] w fun e w' => e = .returned (.int .i64 (cmpS x y)) ∧ w' = w := by
  have n1 := nanS_any x w
  have n2 := nanS_any y w
  cases h1 : bef x y
  case true =>
    have e : cmpS x y = -1 := by unfold cmpS; simp [h1, way]
    have g1 : Op.bytesLess x.toList y.toList = true := h1
    rw [e]
    go_enter Tryz.func111, Tryz.ntmps111
    go_wp2_with fail
    refine n1.mono ?_
    rintro _ _ ⟨rfl, rfl⟩
    go_wp2_with fail
    refine n2.mono ?_
    rintro _ _ ⟨rfl, rfl⟩
    go_wp2_with fail
    go_ret
    exact ⟨rfl, rfl⟩
  cases h2 : bef y x
  case true =>
    have e : cmpS x y = 1 := by unfold cmpS; simp [h1, h2, way]
    have g1 : Op.bytesLess x.toList y.toList = false := h1
    have g2 : Op.bytesLess y.toList x.toList = true := h2
    have ne : ¬ x = y := fun q => by rw [q, bef_irrefl] at h2; cases h2
    have g3 : (x.toList == y.toList) = false := by
      rw [ByteArray.toList_eq, ByteArray.toList_eq]
      simpa using fun q => ne (WideShapes.bytes_inj q)
    clear h1 h2 ne
    rw [e]
    go_enter Tryz.func111, Tryz.ntmps111
    go_wp2_with fail
    refine n1.mono ?_
    rintro _ _ ⟨rfl, rfl⟩
    go_wp2_with fail
    refine n2.mono ?_
    rintro _ _ ⟨rfl, rfl⟩
    go_wp2_with fail
    go_ret
    exact ⟨rfl, rfl⟩
  case false =>
    have e : cmpS x y = 0 := by unfold cmpS; simp [h1, h2, way]
    have g0 : x = y := by
      by_cases q : x = y
      · exact q
      · rcases bef_total q with p | p
        · rw [p] at h1; cases h1
        · rw [p] at h2; cases h2
    subst g0
    have g1 : Op.bytesLess x.toList x.toList = false := h1
    have g3 : (x.toList == x.toList) = true := by simp
    clear h1 h2
    rw [e]
    go_enter Tryz.func111, Tryz.ntmps111
    go_wp2_with fail
    refine n1.mono ?_
    rintro _ _ ⟨rfl, rfl⟩
    go_wp2_with fail
    refine n2.mono ?_
    rintro _ _ ⟨rfl, rfl⟩
    go_wp2_with fail
    go_ret
    exact ⟨rfl, rfl⟩
/-- The first of some numbers that is not zero. -/
def fstN : List Int → Int
  | [] => 0
  | x :: r => if x = 0 then fstN r else x
theorem fstN_drop (l : List Int) (k : Nat) (h : k < l.length) : fstN (l.drop k) = if l.getD k 0 = 0 then fstN (l.drop (k + 1)) else l.getD k 0 := by
  rw [List.drop_eq_getElem_cons h, fstN]
  simp [List.getD, List.getElem?_eq_getElem h]
theorem or_any (A : Option Addr) (n c : Nat) (l : List Int) (w : World) (hS : Wd.Sl w .i64 A n c l) (hm : n ≤ 1000000) :
    Calls Tryz.prog 77 #[.slice A n c] w fun e w' => e = .returned (.int .i64 (fstN l)) ∧ w' = w := by
  have Hl := Lib.hid hS.len
  have hcap := hS.cap
  obtain ⟨z, hz⟩ : ∃ z, z = fstN l := ⟨_, rfl⟩
  rw [← hz]
  have Hz := Lib.hid hz
  clear hz
  go_enter Tryz.func77, Tryz.ntmps77
  go_wp2
  go_loopw [5, 8] (fun _ i wr => ∃ k : Nat, i = .int .i64 k ∧ k ≤ n ∧ Hid (fstN (l.drop k) = z) ∧ wr = w) (fun _ i _ => n - (intOf i).toNat)
  case atStart => exact ⟨0, rfl, Nat.zero_le _, Lib.hid (by rw [Hz.out]; rfl), rfl⟩
  case round =>
    obtain ⟨k, rfl, hk, hf, rfl⟩ := hrel
    by_cases hlt : k < n
    · obtain ⟨b, o, rfl, hbB, hcell⟩ := hS.rd k (by rw [← Hl.out]; exact hlt)
      have hst := fstN_drop l k (by rw [← Hl.out]; exact hlt)
      rw [hf.out] at hst
      obtain ⟨x, hx⟩ : ∃ x, x = l.getD k 0 := ⟨_, rfl⟩
      rw [← hx] at hcell hst
      have Hx := Lib.hid hst
      clear hst hx hf
      by_cases h0 : x = 0
      · go_wp2_with fail
        go_roundw
        case rel => exact ⟨k + 1, by go_num, by omega, Lib.hid (by rw [Hx.out, if_pos h0]), by first | rfl | trivial⟩
        case measure => simp [intOf]; omega
      · go_wp2_with fail
        go_ret
        exact ⟨by rw [Hx.out, if_neg h0]; rfl, rfl⟩
    · have hkI : ¬ (k : Int) < n := by omega
      have e : z = 0 := by
        rw [← hf.out, List.drop_of_length_le (by rw [← Hl.out]; omega)]
        rfl
      have He := Lib.hid e
      clear e
      go_wp2_with fail
      go_ret
      exact ⟨by rw [He.out]; rfl, rfl⟩
end Vc
end Go.Proofs.YtoibpbnebcoafaaGreat
namespace Go.Proofs.YtoibpbnebcoafaaGreat
set_option maxRecDepth 20000
open Go.RowKit
namespace Vc
open Va
theorem ord_own (k i : Int) (s : ByteArray) (b : Bool) (k' i' : Int) (s' : ByteArray) (b' : Bool) :
    fstN [cmpI k k', cmpI (ownI k i) (ownI k' i'), cmpS (ownS k s) (ownS k' s'), cmpI (dg (ownB k b)) (dg (ownB k' b'))] = ord ⟨k, i, s, b⟩ ⟨k', i', s', b'⟩ := by
  have zI : cmpI 0 0 = 0 := cmpI_zero.2 rfl
  have zS : cmpS ⟨#[]⟩ ⟨#[]⟩ = 0 := cmpS_zero.2 rfl
  by_cases e : k = k'
  · subst e
    rw [ord_same (a := ⟨k, i, s, b⟩) (b := ⟨k, i', s', b'⟩) rfl]
    unfold ownI ownS ownB dg
    have zk : cmpI k k = 0 := by unfold cmpI; simp [way]
    by_cases h1 : k = 1
    · subst h1
      simp [fstN, zI, zS, zk]
      intro h; exact h.symm
    by_cases h2 : k = 2
    · subst h2
      simp [fstN, zI, zk]
      intro h; exact h.symm
    by_cases h3 : k = 3
    · subst h3
      simp [fstN, zI, zS, zk]
      cases b <;> cases b' <;> decide
    · simp [fstN, zI, zS, zk, h1, h2, h3]
  · unfold ord
    by_cases h : k < k'
    · have : cmpI k k' = -1 := by unfold cmpI; simp [h, way]
      simp [fstN, this, h]
    · have h' : k' < k := by omega
      have : cmpI k k' = 1 := by unfold cmpI; simp [h, h', way]
      simp [fstN, this, h, h']

set_option maxHeartbeats 2000000 in
theorem order_any (k i : Int) (s : ByteArray) (b : Bool) (k' i' : Int) (s' : ByteArray) (b' : Bool) (w : World) :
    Calls Tryz.prog 87 #[.agg #[.int .i64 k, .int .i64 i, .string s, .bool b], .agg #[.int .i64 k', .int .i64 i', .string s', .bool b']] w fun e w' => e = .returned (.int .i64 (ord ⟨k, i, s, b⟩ ⟨k', i', s', b'⟩)) ∧ Below w.heap.size w w' := by
  have Co := Lib.hid own_any
  go_enter Tryz.func87, Tryz.ntmps87
  go_wp2_with fail
  have hb0 : Below w.heap.size w ((w.alloc (.cells #[.int .i64 k, .int .i64 i, .string s, .bool b] 56)).alloc (.cells #[.int .i64 k', .int .i64 i', .string s', .bool b'] 56)) := ((Below.refl _ _).alloc (Nat.le_refl _) _).alloc (by simp) _
  have hz0 : ((w.alloc (.cells #[.int .i64 k, .int .i64 i, .string s, .bool b] 56)).alloc (.cells #[.int .i64 k', .int .i64 i', .string s', .bool b'] 56)).heap.size = w.heap.size + 1 + 1 := by simp
  have v0 : Vb ((w.alloc (.cells #[.int .i64 k, .int .i64 i, .string s, .bool b] 56)).alloc (.cells #[.int .i64 k', .int .i64 i', .string s', .bool b'] 56)) w.heap.size k i s b := (Wd.Bx.new w _ _).alloc _
  have v1 : Vb ((w.alloc (.cells #[.int .i64 k, .int .i64 i, .string s, .bool b] 56)).alloc (.cells #[.int .i64 k', .int .i64 i', .string s', .bool b'] 56)) (w.heap.size + 1) k' i' s' b' := by
    have := Wd.Bx.new (w.alloc (.cells #[.int .i64 k, .int .i64 i, .string s, .bool b] 56)) 56 #[.int .i64 k', .int .i64 i', .string s', .bool b']
    simpa [Vb] using this
  generalize (w.alloc (.cells #[.int .i64 k, .int .i64 i, .string s, .bool b] 56)).alloc (.cells #[.int .i64 k', .int .i64 i', .string s', .bool b'] 56) = w1 at *
  go_cut [] (fun wx => Vb wx w.heap.size k (ownI k i) (ownS k s) (ownB k b) ∧ Vb wx (w.heap.size + 1) k' (ownI k' i') (ownS k' s') (ownB k' b') ∧ Below w.heap.size w wx)
  case first =>
    obtain ⟨⟨u0, u1, u2, u3⟩, -⟩ := four v0
    obtain ⟨⟨u4, u5, u6, u7⟩, -⟩ := four v1
    have tok1 : True := trivial
    have hl0 : w.heap.size < w1.heap.size := by omega
    have hl1 : w.heap.size + 1 < w1.heap.size := by omega
    go_region_with (first | (go_at_call 108; (with_reducible refine (Co.out _ _ _ _ _).mono ?_); have _t := tok1; clear tok1; rintro e w2 ⟨rfl, hB2⟩; have hb2 : Below w1.heap.size w1 w2 := Wd.of_drew hB2; have hz2 := hb2.size; obtain ⟨⟨_, _, _, _⟩, -⟩ := four (Wd.Bx.below v1 hl1 hb2)) | (go_at_call 108; (with_reducible refine (Co.out _ _ _ _ _).mono ?_); rintro e w3 ⟨rfl, hB3⟩; have hb3 : Below w1.heap.size w1 w3 := hb2.trans (hB3.mono hz2); have x0 := Wd.Bx.below v0 hl0 hb3; have x1 := Wd.Bx.below v1 hl1 hb3; obtain ⟨⟨_, _, _, _⟩, _, _, _, _⟩ := four x0; obtain ⟨⟨_, _, _, _⟩, _, _, _, _⟩ := four x1))
    all_goals (go_wp2_with fail; go_meet; exact ⟨(Vb.set x0).other (by omega), (Vb.other x1 (by omega)).set, below_setV (below_setV (hb0.trans (hb3.mono (by omega))) (Nat.le_refl _)) (by omega)⟩)
  case rest =>
    obtain ⟨y0, y1, hB⟩ := hcut
    obtain ⟨⟨c0, c1, c2, c3⟩, -⟩ := four y0
    obtain ⟨⟨c4, c5, c6, c7⟩, -⟩ := four y1
    go_wp2_with fail
    refine wp_region_still_tail 22 (by kernel_rfl) (by kernel_rfl) ?_
    simp only [List.take_succ_cons, List.take_zero, List.drop_succ_cons, List.drop_zero]
    repeat (first | still_call (cmpI_any _ _ _) | still_call (cmpS_any _ _ _) | still_call (digit_any _ _) | still_call (cmpD_any _ _ _) | still_step)
    try refine wpStill_nil ?_
    change wpList _ _ _ _ _ wc.drew
    clear c0 c1 c2 c3 c4 c5 c6 c7 y0 y1
    obtain ⟨r1, hr1⟩ : ∃ r, r = cmpI k k' := ⟨_, rfl⟩
    obtain ⟨r2, hr2⟩ : ∃ r, r = cmpI (ownI k i) (ownI k' i') := ⟨_, rfl⟩
    obtain ⟨r3, hr3⟩ : ∃ r, r = cmpS (ownS k s) (ownS k' s') := ⟨_, rfl⟩
    obtain ⟨r4, hr4⟩ : ∃ r, r = cmpI (dg (ownB k b)) (dg (ownB k' b')) := ⟨_, rfl⟩
    have Hr := Lib.hid (ord_own k i s b k' i' s' b')
    rw [← hr1, ← hr2, ← hr3, ← hr4] at *
    clear hr1 hr2 hr3 hr4
    go_wp2_with fail
    refine (or_any _ 4 4 [r1, r2, r3, r4] _ ((Wd.Sl.lit wc .i64 [r1, r2, r3, r4] _ _ 4 rfl rfl (by decide)).below ((Below.refl _ _).drew)) (by decide)).mono ?_
    rintro e w5 ⟨rfl, rfl⟩
    rw [Hr.out]
    go_wp2_with fail
    go_ret
    exact ⟨rfl, (hB.alloc hB.size _).drew⟩
end Vc
end Go.Proofs.YtoibpbnebcoafaaGreat
