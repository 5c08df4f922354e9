/- Small calls: within, mayPlace, keyed, compare. What value.May does, and the reference's May. What schema.Find and the reference's Find do; a schema's block. -/
import Derived.StillTailTactics
import Derived.Laws.StructEq
import Derived.BigRegion
import Derived.Deep.RegionHeld3
import Derived.Deep.RegionWith
import Derived.BigQuiet
import Derived.Deep.QuietTactic
import Derived.Test.YtpappcmgnnmbeaaDoorPk10
import Derived.Test.YtpappcmgnnmbeaaDoorPk05
import Derived.Test.YtpappcmgnnmbeaaDoorPk04
namespace Go.Proofs.YtpappcmgnnmbeaaDoor
set_option maxRecDepth 20000
open Go.RowKit Go.Maps
namespace Up
open Va (Vl)
open Sc (Sch)
/-- n lies between a and b. -/
def wn (n a b : Int) : Bool := decide (a ≤ n ∧ n ≤ b)
theorem wn_yes {n a b : Int} (h : a ≤ n ∧ n ≤ b) : wn n a b = true := decide_eq_true h
theorem wn_no {n a b : Int} (h : ¬ (a ≤ n ∧ n ≤ b)) : wn n a b = false := decide_eq_false h
theorem within_any (n a b : Int) (w : World) : Calls Tryd.prog 46 #[.int .i64 n, .int .i64 a, .int .i64 b] w fun e w' => e = .returned (.bool (wn n a b)) ∧ w = w' := by
  by_cases h : a ≤ n
  · by_cases h2 : n ≤ b
    · rw [wn_yes ⟨h, h2⟩]
      go_enter Tryd.func46, Tryd.ntmps46
      go_wp2_with fail
      go_ret
      exact ⟨rfl, rfl⟩
    · rw [wn_no (fun q => h2 q.2)]
      go_enter Tryd.func46, Tryd.ntmps46
      go_wp2_with fail
      go_ret
      exact ⟨rfl, rfl⟩
  · rw [wn_no (fun q => h q.1)]
    go_enter Tryd.func46, Tryd.ntmps46
    go_wp2_with fail
    go_ret
    exact ⟨rfl, rfl⟩
def plB (a b : Int) : Bool := wn a 0 1073741824 && wn b 0 65535
theorem mayPlace_any (a b : Int) (w : World) : Calls Tryd.prog 45 #[.agg #[.int .i64 a, .int .i64 b]] w fun e w' => e = .returned (.bool (plB a b)) ∧ Below w.heap.size w w' := by
  have hb0 := (Below.refl w.heap.size w).alloc (Nat.le_refl _) (.cells #[.int .i64 a, .int .i64 b] 42)
  have c0 : (w.alloc (.cells #[.int .i64 a, .int .i64 b] 42)).cell? ⟨w.heap.size, 0, none⟩ = some (.int .i64 a) := by simp
  have c1 : (w.alloc (.cells #[.int .i64 a, .int .i64 b] 42)).cell? ⟨w.heap.size, 1, none⟩ = some (.int .i64 b) := by simp
  obtain ⟨x, hx⟩ : ∃ x, x = wn a 0 1073741824 := ⟨_, rfl⟩
  obtain ⟨y, hy⟩ : ∃ y, y = wn b 0 65535 := ⟨_, rfl⟩
  have H1 := within_any a 0 1073741824
  have H2 := within_any b 0 65535
  unfold plB
  rw [← hx] at H1 ⊢
  rw [← hy] at H2 ⊢
  have H1 := Lib.hid H1
  have H2 := Lib.hid H2
  clear hx hy
  go_enter Tryd.func45, Tryd.ntmps45
  cases x
  · go_wp2_with (first | (with_reducible refine (H1.out _).mono ?_; rintro e w' ⟨rfl, rfl⟩) | fail)
    go_ret
    exact ⟨rfl, hb0⟩
  · cases y
    · go_wp2_with (first | (with_reducible refine (H1.out _).mono ?_; rintro e w' ⟨rfl, rfl⟩) | (with_reducible refine (H2.out _).mono ?_; rintro e w' ⟨rfl, rfl⟩))
      go_ret
      exact ⟨rfl, hb0⟩
    · go_wp2_with (first | (with_reducible refine (H1.out _).mono ?_; rintro e w' ⟨rfl, rfl⟩) | (with_reducible refine (H2.out _).mono ?_; rintro e w' ⟨rfl, rfl⟩))
      go_ret
      exact ⟨rfl, hb0⟩
theorem keyed_any {w : World} {t : Nat} {A : Option Addr} {n c : Nat} {s : Sch} {bd bw bs : Nat} (h : Wd.Bx w t 78 #[.slice A n c, .int .i64 s.key, .int .i64 s.cmp, .int .i64 s.del, .int .i64 s.sort, .map (some bd), .map (some bw), .map (some bs)]) :
    Calls Tryd.prog 41 #[.pointer (some ⟨t, 0, none⟩)] w fun e w' => e = .returned (.bool (kdS s)) ∧ w' = w := by
  have c1 := h.cell 1
  simp at c1
  unfold kdS
  by_cases q : s.key = -1
  · rw [decide_eq_false (by simp [q])]
    rw [q] at c1
    go_enter Tryd.func41, Tryd.ntmps41
    go_wp2_with fail
    go_ret
    exact ⟨rfl, rfl⟩
  · rw [decide_eq_true q]
    go_enter Tryd.func41, Tryd.ntmps41
    go_wp2_with fail
    go_ret
    exact ⟨by simp [q], rfl⟩
/-- Which of two wins. -/
def cmpW (a b : Rw) : Int := Vc.fstN [Va.cmpI a.cmp b.cmp, Va.cmpI a.off b.off]
theorem compare_any (a b : Rw) (w : World) : Calls Tryd.prog 69 #[.agg #[.int .i64 a.seg, .int .i64 a.doc, .int .i64 a.cmp, .int .i64 a.off, .bool a.gone], .agg #[.int .i64 b.seg, .int .i64 b.doc, .int .i64 b.cmp, .int .i64 b.off, .bool b.gone]] w fun e w' => e = .returned (.int .i64 (cmpW a b)) ∧ Below w.heap.size w w' := by
  obtain ⟨z, hz⟩ : ∃ z, z = cmpW a b := ⟨_, rfl⟩
  rw [← hz]
  have Hz := Lib.hid hz
  clear hz
  go_enter Tryd.func69, Tryd.ntmps69
  go_wp2_with fail
  have hb0 : Below w.heap.size w ((w.alloc (.cells #[.int .i64 a.seg, .int .i64 a.doc, .int .i64 a.cmp, .int .i64 a.off, .bool a.gone] 47)).alloc (.cells #[.int .i64 b.seg, .int .i64 b.doc, .int .i64 b.cmp, .int .i64 b.off, .bool b.gone] 47)) := ((Below.refl _ _).alloc (Nat.le_refl _) _).alloc (by simp) _
  have hz0 : ((w.alloc (.cells #[.int .i64 a.seg, .int .i64 a.doc, .int .i64 a.cmp, .int .i64 a.off, .bool a.gone] 47)).alloc (.cells #[.int .i64 b.seg, .int .i64 b.doc, .int .i64 b.cmp, .int .i64 b.off, .bool b.gone] 47)).heap.size = w.heap.size + 1 + 1 := by simp
  have v0 : Wd.Bx ((w.alloc (.cells #[.int .i64 a.seg, .int .i64 a.doc, .int .i64 a.cmp, .int .i64 a.off, .bool a.gone] 47)).alloc (.cells #[.int .i64 b.seg, .int .i64 b.doc, .int .i64 b.cmp, .int .i64 b.off, .bool b.gone] 47)) w.heap.size 47 #[.int .i64 a.seg, .int .i64 a.doc, .int .i64 a.cmp, .int .i64 a.off, .bool a.gone] := (Wd.Bx.new w _ _).alloc _
  have v1 : Wd.Bx ((w.alloc (.cells #[.int .i64 a.seg, .int .i64 a.doc, .int .i64 a.cmp, .int .i64 a.off, .bool a.gone] 47)).alloc (.cells #[.int .i64 b.seg, .int .i64 b.doc, .int .i64 b.cmp, .int .i64 b.off, .bool b.gone] 47)) (w.heap.size + 1) 47 #[.int .i64 b.seg, .int .i64 b.doc, .int .i64 b.cmp, .int .i64 b.off, .bool b.gone] := by
    have := Wd.Bx.new (w.alloc (.cells #[.int .i64 a.seg, .int .i64 a.doc, .int .i64 a.cmp, .int .i64 a.off, .bool a.gone] 47)) 47 #[.int .i64 b.seg, .int .i64 b.doc, .int .i64 b.cmp, .int .i64 b.off, .bool b.gone]
    simpa using this
  generalize (w.alloc (.cells #[.int .i64 a.seg, .int .i64 a.doc, .int .i64 a.cmp, .int .i64 a.off, .bool a.gone] 47)).alloc (.cells #[.int .i64 b.seg, .int .i64 b.doc, .int .i64 b.cmp, .int .i64 b.off, .bool b.gone] 47) = wc at *
  have c0 := v0.cell 2
  have c1 := v0.cell 3
  have c2 := v1.cell 2
  have c3 := v1.cell 3
  simp at c0 c1 c2 c3
  refine wp_region_still_tail 10 (by kernel_rfl) (by kernel_rfl) ?_
  simp only [List.take_succ_cons, List.take_zero, List.drop_succ_cons, List.drop_zero]
  repeat (first | still_call (Vc.cmpI_any _ _ _) | still_step)
  try refine wpStill_nil ?_
  change wpList _ _ _ _ _ wc.drew
  clear c0 c1 c2 c3 v0 v1 hz0
  obtain ⟨r1, hr1⟩ : ∃ r, r = Va.cmpI a.cmp b.cmp := ⟨_, rfl⟩
  obtain ⟨r2, hr2⟩ : ∃ r, r = Va.cmpI a.off b.off := ⟨_, rfl⟩
  have Hr := Lib.hid (show Vc.fstN [r1, r2] = z by rw [hr1, hr2]; exact Hz.out.symm)
  clear Hz
  rw [← hr1, ← hr2] at *
  clear hr1 hr2
  go_wp2_with fail
  refine (Vc.or_any _ 2 2 [r1, r2] _ ((Wd.Sl.lit wc .i64 [r1, r2] _ _ 2 rfl rfl (by decide)).below ((Below.refl _ _).drew)) (by decide)).mono ?_
  rintro e w5 ⟨rfl, rfl⟩
  rw [Hr.out]
  go_wp2_with fail
  go_ret
  exact ⟨rfl, (hb0.alloc hb0.size _).drew⟩
theorem cmpW_is (a b : Rw) : (cmpW a b = 1 ↔ beats a b) ∧ (cmpW a b = 0 ↔ b.cmp = a.cmp ∧ b.off = a.off) := by
  unfold cmpW beats
  have h1 : Va.cmpI a.cmp b.cmp = Va.way (decide (a.cmp < b.cmp)) (decide (b.cmp < a.cmp)) := rfl
  have h2 : Va.cmpI a.off b.off = Va.way (decide (a.off < b.off)) (decide (b.off < a.off)) := rfl
  rw [h1, h2]
  unfold Va.way Vc.fstN
  rcases Int.lt_trichotomy a.cmp b.cmp with h | h | h
  · simp [h, show ¬ b.cmp < a.cmp by omega]
    omega
  · rcases Int.lt_trichotomy a.off b.off with k | k | k
    · simp [h, k, Vc.fstN]
      omega
    · simp [h, k, Vc.fstN]
    · simp [h, k, show ¬ a.off < b.off by omega, Vc.fstN]
      omega
  · simp [h, show ¬ a.cmp < b.cmp by omega]
    omega
end Up
end Go.Proofs.YtpappcmgnnmbeaaDoor
namespace Go.Proofs.YtpappcmgnnmbeaaDoor
set_option maxRecDepth 20000
open Go.RowKit
namespace Vc
open Va
/-- May this value be? -/
def mayB (k i : Int) (s : ByteArray) (b : Bool) : Bool :=
  decide (k = 0 ∧ i = 0 ∧ s = ⟨#[]⟩ ∧ b = false) || decide (k = 1 ∧ s = ⟨#[]⟩ ∧ b = false) || decide (k = 2 ∧ i = 0 ∧ s.size ≤ 64 ∧ b = false) || decide (k = 3 ∧ i = 0 ∧ s = ⟨#[]⟩)
theorem mayB_iff (k i : Int) (s : ByteArray) (b : Bool) : mayB k i s b = true ↔ May ⟨k, i, s, b⟩ := by
  unfold mayB May
  simp [or_assoc]
theorem list_beq (s t : ByteArray) : (s.toList == t.toList) = decide (s = t) := by
  rw [ByteArray.toList_eq, ByteArray.toList_eq]
  by_cases h : s = t
  · subst h; simp
  · rw [decide_eq_false h]
    have : ¬ s.data.toList = t.data.toList := fun q => h (WideShapes.bytes_inj q)
    simpa using this
theorem eqV (k i : Int) (s : ByteArray) (b : Bool) (k' i' : Int) (s' : ByteArray) (b' : Bool) (w : World) :
    (Op.equalIn 10000 27 (.agg #[.int .i64 k, .int .i64 i, .string s, .bool b]) (.agg #[.int .i64 k', .int .i64 i', .string s', .bool b'])).run Tryd.prog w = .ok (decide (k = k' ∧ i = i' ∧ s = s' ∧ b = b')) w := by
  have u3 := Tryd.underlying3
  have u4 := Tryd.underlying4
  have u9 := Tryd.underlying9
  rw [show (10000 : Nat) = 9999 + 1 from rfl, run_equalIn_struct _ _ _ _ _ (by kernel_rfl) (by kernel_rfl)]
  rw [show (Tryd.prog.fieldsOf 27).toList = [{ name := "Kind", type := 3, offset := 0, embedded := false, tag := "", pkgPath := "", byteOffset := 0 }, { name := "I", type := 3, offset := 1, embedded := false, tag := "", pkgPath := "", byteOffset := 8 }, { name := "S", type := 9, offset := 2, embedded := false, tag := "", pkgPath := "", byteOffset := 16 }, { name := "B", type := 4, offset := 3, embedded := false, tag := "", pkgPath := "", byteOffset := 32 }] by kernel_rfl]
  have g := list_beq s s'
  by_cases h1 : k = k' <;> by_cases h2 : i = i' <;> by_cases h3 : s = s' <;> by_cases h4 : b = b' <;> simp [h3] at g <;> go_simp <;> simp_all
/-- What the program holds a value against. -/
theorem may_own {k i : Int} {s : ByteArray} {b : Bool} (h : k = 0 ∨ k = 1 ∨ k = 3 ∨ (k = 2 ∧ s.size ≤ 64)) : decide (k = k ∧ i = ownI k i ∧ s = ownS k s ∧ b = ownB k b) = mayB k i s b := by
  unfold mayB ownI ownS ownB
  rcases h with rfl | rfl | rfl | ⟨rfl, h⟩ <;> simp_all
theorem may_long {i : Int} {s : ByteArray} {b : Bool} (h : 64 < s.size) : mayB 2 i s b = false := by
  unfold mayB
  have : ¬ s.size ≤ 64 := by omega
  simp [this]
theorem may_else {k i : Int} {s : ByteArray} {b : Bool} (h0 : k ≠ 0) (h1 : k ≠ 1) (h2 : k ≠ 2) (h3 : k ≠ 3) : mayB k i s b = false := by
  unfold mayB
  simp [h0, h1, h2, h3]
set_option maxHeartbeats 2000000 in
theorem may_any (k i : Int) (s : ByteArray) (b : Bool) (w : World) :
    Calls Tryd.prog 66 #[.agg #[.int .i64 k, .int .i64 i, .string s, .bool b]] w fun e w' => e = .returned (.bool (mayB k i s b)) ∧ Below w.heap.size w w' := by
  by_cases hc : k = 0 ∨ k = 1 ∨ k = 3 ∨ (k = 2 ∧ s.size ≤ 64)
  · have heq := fun w => eqV k i s b k (ownI k i) (ownS k s) (ownB k b) w
    rw [may_own hc] at heq
    obtain ⟨r, hr⟩ : ∃ r, r = mayB k i s b := ⟨_, rfl⟩
    rw [← hr] at heq ⊢
    clear hr
    have hg : Tryd.prog.eqGuardType Tryd.prog.depth 27 = false := by kernel_rfl
    have Co := Lib.hid own_any
    rcases hc with rfl | rfl | rfl | ⟨rfl, hs⟩
    · go_enter Tryd.func66, Tryd.ntmps66
      go_wp2_with fail
      have hb0 := (Below.refl w.heap.size w).alloc (Nat.le_refl _) (.cells #[.int .i64 0, .int .i64 i, .string s, .bool b] 27)
      have v0 : Vb (w.alloc (.cells #[.int .i64 0, .int .i64 i, .string s, .bool b] 27)) w.heap.size 0 i s b := Wd.Bx.new w _ _
      generalize w.alloc (.cells #[.int .i64 0, .int .i64 i, .string s, .bool b] 27) = w1 at *
      have hl0 := Wd.Bx.lt v0
      obtain ⟨⟨u0, u1, u2, u3⟩, -⟩ := four v0
      go_region_with (first | (go_at_call 79; (with_reducible refine (Co.out _ _ _ _ _).mono ?_); rintro e w2 ⟨rfl, hB2⟩; have hb2 : Below w1.heap.size w1 w2 := Wd.of_drew hB2; obtain ⟨⟨_, _, _, _⟩, -⟩ := four (Wd.Bx.below v0 hl0 hb2)))
      all_goals (go_wp2_with fail; go_ret; exact ⟨rfl, hb0.trans (hb2.mono hb0.size)⟩)
    · go_enter Tryd.func66, Tryd.ntmps66
      go_wp2_with fail
      have hb0 := (Below.refl w.heap.size w).alloc (Nat.le_refl _) (.cells #[.int .i64 1, .int .i64 i, .string s, .bool b] 27)
      have v0 : Vb (w.alloc (.cells #[.int .i64 1, .int .i64 i, .string s, .bool b] 27)) w.heap.size 1 i s b := Wd.Bx.new w _ _
      generalize w.alloc (.cells #[.int .i64 1, .int .i64 i, .string s, .bool b] 27) = w1 at *
      have hl0 := Wd.Bx.lt v0
      obtain ⟨⟨u0, u1, u2, u3⟩, -⟩ := four v0
      go_region_with (first | (go_at_call 79; (with_reducible refine (Co.out _ _ _ _ _).mono ?_); rintro e w2 ⟨rfl, hB2⟩; have hb2 : Below w1.heap.size w1 w2 := Wd.of_drew hB2; obtain ⟨⟨_, _, _, _⟩, -⟩ := four (Wd.Bx.below v0 hl0 hb2)))
      all_goals (go_wp2_with fail; go_ret; exact ⟨rfl, hb0.trans (hb2.mono hb0.size)⟩)
    · go_enter Tryd.func66, Tryd.ntmps66
      go_wp2_with fail
      have hb0 := (Below.refl w.heap.size w).alloc (Nat.le_refl _) (.cells #[.int .i64 3, .int .i64 i, .string s, .bool b] 27)
      have v0 : Vb (w.alloc (.cells #[.int .i64 3, .int .i64 i, .string s, .bool b] 27)) w.heap.size 3 i s b := Wd.Bx.new w _ _
      generalize w.alloc (.cells #[.int .i64 3, .int .i64 i, .string s, .bool b] 27) = w1 at *
      have hl0 := Wd.Bx.lt v0
      obtain ⟨⟨u0, u1, u2, u3⟩, -⟩ := four v0
      go_region_with (first | (go_at_call 79; (with_reducible refine (Co.out _ _ _ _ _).mono ?_); rintro e w2 ⟨rfl, hB2⟩; have hb2 : Below w1.heap.size w1 w2 := Wd.of_drew hB2; obtain ⟨⟨_, _, _, _⟩, -⟩ := four (Wd.Bx.below v0 hl0 hb2)))
      all_goals (go_wp2_with fail; go_ret; exact ⟨rfl, hb0.trans (hb2.mono hb0.size)⟩)
    · have hsI : ¬ (64 : Int) < (s.size : Int) := by omega
      go_enter Tryd.func66, Tryd.ntmps66
      go_wp2_with fail
      have hb0 := (Below.refl w.heap.size w).alloc (Nat.le_refl _) (.cells #[.int .i64 2, .int .i64 i, .string s, .bool b] 27)
      have v0 : Vb (w.alloc (.cells #[.int .i64 2, .int .i64 i, .string s, .bool b] 27)) w.heap.size 2 i s b := Wd.Bx.new w _ _
      generalize w.alloc (.cells #[.int .i64 2, .int .i64 i, .string s, .bool b] 27) = w1 at *
      have hl0 := Wd.Bx.lt v0
      obtain ⟨⟨u0, u1, u2, u3⟩, -⟩ := four v0
      go_region_with (first | (go_at_call 79; (with_reducible refine (Co.out _ _ _ _ _).mono ?_); rintro e w2 ⟨rfl, hB2⟩; have hb2 : Below w1.heap.size w1 w2 := Wd.of_drew hB2; obtain ⟨⟨_, _, _, _⟩, -⟩ := four (Wd.Bx.below v0 hl0 hb2)))
      all_goals (go_wp2_with fail; go_ret; exact ⟨rfl, hb0.trans (hb2.mono hb0.size)⟩)
  · obtain ⟨r, hr⟩ : ∃ r, r = mayB k i s b := ⟨_, rfl⟩
    have hf : mayB k i s b = false := by
      by_cases h2 : k = 2
      · subst h2
        exact may_long (by omega)
      · exact may_else (by omega) (by omega) h2 (by omega)
    rw [hf]
    clear hr hf
    by_cases h2 : k = 2
    · subst h2
      have hsI : (64 : Int) < (s.size : Int) := by omega
      go_enter Tryd.func66, Tryd.ntmps66
      go_wp2_with fail
      go_ret
      exact ⟨rfl, (Below.refl _ _).alloc (Nat.le_refl _) _⟩
    · have q0 : (k == 0) = false := by simp; omega
      have q1 : (k == 1) = false := by simp; omega
      have q2 : (k == 2) = false := by simp; omega
      have q3 : (k == 3) = false := by simp; omega
      clear hc h2
      go_enter Tryd.func66, Tryd.ntmps66
      go_wp2_with fail
      go_ret
      exact ⟨rfl, (Below.refl _ _).alloc (Nat.le_refl _) _⟩
end Vc
end Go.Proofs.YtpappcmgnnmbeaaDoor
namespace Go.Proofs.YtpappcmgnnmbeaaDoor
set_option maxRecDepth 20000
open Go.RowKit
namespace Sx
open Sc (Col Sch findF)
/-- A schema's block. -/
def Sb (w : World) (g : Nat) (A : Option Addr) (n c : Nat) (k p d t : Int) : Prop := Wd.Bx w g 24 #[.slice A n c, .int .i64 k, .int .i64 p, .int .i64 d, .int .i64 t]
theorem five {w : World} {g : Nat} {A : Option Addr} {n c : Nat} {k p d t : Int} (h : Sb w g A n c k p d t) :
    w.cell? ⟨g, 0, none⟩ = some (.slice A n c) ∧ w.cell? ⟨g, 1, none⟩ = some (.int .i64 k) ∧ w.cell? ⟨g, 2, none⟩ = some (.int .i64 p) ∧ w.cell? ⟨g, 3, none⟩ = some (.int .i64 d) ∧ w.cell? ⟨g, 4, none⟩ = some (.int .i64 t) :=
  ⟨(Wd.Bx.cell h 0).trans rfl, (Wd.Bx.cell h 1).trans rfl, (Wd.Bx.cell h 2).trans rfl, (Wd.Bx.cell h 3).trans rfl, (Wd.Bx.cell h 4).trans rfl⟩
/-- A column's block. -/
def Cb (w : World) (g : Nat) (s : ByteArray) (k : Int) (b : Bool) : Prop := Wd.Bx w g 71 #[.string s, .int .i64 k, .bool b]
theorem three {w : World} {g : Nat} {s : ByteArray} {k : Int} {b : Bool} (h : Cb w g s k b) :
    w.cell? ⟨g, 0, none⟩ = some (.string s) ∧ w.cell? ⟨g, 1, none⟩ = some (.int .i64 k) ∧ w.cell? ⟨g, 2, none⟩ = some (.bool b) :=
  ⟨(Wd.Bx.cell h 0).trans rfl, (Wd.Bx.cell h 1).trans rfl, (Wd.Bx.cell h 2).trans rfl⟩
theorem find1_any (s : ByteArray) (k : Int) (b : Bool) (g : Nat) (name : ByteArray) (w : World) (hc : w.cell? ⟨g, 0, none⟩ = some (.string name)) :
    Calls Tryd.prog 84 #[.agg #[.string s, .int .i64 k, .bool b], .pointer (some ⟨g, 0, none⟩)] w fun e w' => e = .returned (.bool (decide (s = name))) ∧ Below w.heap.size w w' := by
  have he := Vc.list_beq s name
  obtain ⟨r, hr⟩ : ∃ r, r = decide (s = name) := ⟨_, rfl⟩
  rw [← hr] at he ⊢
  clear hr
  have hlt := World.block_lt_of_cell? w ⟨g, 0, none⟩ hc
  have hc1 := (((Below.refl w.heap.size w).alloc (Nat.le_refl _) (.cells #[.string s, .int .i64 k, .bool b] 71)).cell (p := ⟨g, 0, none⟩) hlt).trans hc
  clear hc hlt
  go_enter Tryd.func84, Tryd.ntmps84
  go_wp2_with fail
  go_ret
  exact ⟨rfl, (Below.refl _ _).alloc (Nat.le_refl _) _⟩
set_option maxHeartbeats 1000000 in
theorem index_any (A : Option Addr) (n c : Nat) (os : List Col) (g : Nat) (name : ByteArray) (w : World) (hS : Wd.Cs w A n c os) (hc : w.cell? ⟨g, 0, none⟩ = some (.string name)) (hn : n ≤ 1000000) :
    Calls Tryd.prog 83 #[.slice A n c, .func (.func 84) #[] #[.pointer (some ⟨g, 0, none⟩)]] w fun e w' => e = .returned (.int .i64 (findF os name 0)) ∧ Below w.heap.size w w' := by
  have Hl := Lib.hid hS.len
  have HS := Lib.hid hS
  have Hc := Lib.hid hc
  have hglt := World.block_lt_of_cell? w ⟨g, 0, none⟩ hc
  obtain ⟨z, hz⟩ : ∃ z, z = findF os name 0 := ⟨_, rfl⟩
  rw [← hz]
  have Hz := Lib.hid hz
  clear hz hS hc
  go_enter Tryd.func83, Tryd.ntmps83
  go_wp2
  go_loopw [5, 8] (fun _ i wr => ∃ k : Nat, i = .int .i64 k ∧ k ≤ n ∧ (∀ j, j < k → (os.getD j default).name ≠ name) ∧ Below w.heap.size w wr) (fun _ i _ => n - (intOf i).toNat)
  case atStart => exact ⟨0, rfl, Nat.zero_le _, fun j hj => by omega, Below.refl _ _⟩
  case round =>
    obtain ⟨k, rfl, hk, hf, hB⟩ := hrel
    by_cases hlt : k < n
    · obtain ⟨b, o, rfl, hbB, c0, c1, c2, _⟩ := (HS.out.below hB).cells (j := k) (by rw [← Hl.out]; exact hlt) rfl
      have hcg := (hB.cell (p := ⟨g, 0, none⟩) hglt).trans Hc.out
      obtain ⟨x, hx⟩ : ∃ x, x = os.getD k default := ⟨_, rfl⟩
      rw [← hx] at c0 c1 c2
      have Hx := Lib.hid hx
      have Hf := Lib.hid hf
      clear hx hf
      go_wp2_with fail
      refine (find1_any x.name x.kind x.nul g name wr hcg).mono ?_
      rintro e w1 ⟨rfl, hB1⟩
      have hB' := hB.trans (hB1.mono hB.size)
      by_cases he : x.name = name
      · rw [decide_eq_true he]
        go_wp2_with fail
        go_ret
        refine ⟨?_, hB'⟩
        rw [Hz.out, Sc.find_at os name 0 k (by rw [← Hl.out]; exact hlt) Hf.out (by rw [← Hx.out]; exact he)]
        simp
      · rw [decide_eq_false he]
        go_wp2_with fail
        go_roundw
        case rel =>
          refine ⟨k + 1, by go_num, by omega, fun j hj => ?_, hB'⟩
          by_cases hjk : j = k
          · rw [hjk, ← Hx.out]; exact he
          · exact Hf.out j (by omega)
        case measure => simp [intOf]; omega
    · have hkI : ¬ (k : Int) < n := by omega
      have e : z = -1 := by
        rw [Hz.out]
        exact Sc.find_none os name 0 fun j hj => hf j (by rw [← Hl.out] at hj; omega)
      have He := Lib.hid e
      clear e
      go_wp2_with fail
      go_ret
      exact ⟨by rw [He.out]; rfl, hB⟩
theorem Find_any (A : Option Addr) (n c : Nat) (os : List Col) (k p d t : Int) (name : ByteArray) (w : World) (hS : Wd.Cs w A n c os) (hn : n ≤ 1000000) :
    Calls Tryd.prog 74 #[.agg #[.slice A n c, .int .i64 k, .int .i64 p, .int .i64 d, .int .i64 t], .string name] w fun e w' => e = .returned (.int .i64 (findF os name 0)) ∧ Below w.heap.size w w' := by
  have hb0 := ((Below.refl w.heap.size w).alloc (Nat.le_refl _) (.cells #[.slice A n c, .int .i64 k, .int .i64 p, .int .i64 d, .int .i64 t] 24)).alloc (by simp) (.cells #[.string name] 9)
  have H := Lib.hid (index_any A n c os (w.heap.size + 1) name _ (hS.below hb0) (by simp) hn)
  clear hS
  go_enter Tryd.func74, Tryd.ntmps74
  go_wp2_with fail
  refine H.out.mono ?_
  rintro e w1 ⟨rfl, hB1⟩
  go_wp2_with fail
  go_ret
  exact ⟨rfl, hb0.trans (hB1.mono hb0.size)⟩
end Sx
end Go.Proofs.YtpappcmgnnmbeaaDoor
