/- What the smaller functions of package disk do: isCapacity, isName, Dead, find, mayCreate, step. -/
import Derived.Test.YthangnhccbnfbaaDkMem
import Derived.WalkKit
import Derived.WalkSpells
import Derived.Lib.Hide
import Derived.Maps.OwnSet
import Derived.Deep.QuietTactic
import Derived.BigQuiet
namespace Go.Proofs.Ythangnhccbnfbaa
open Go.RowKit Go.Maps
namespace Dk
/-- A pointer to block b. -/
abbrev pt (b : Nat) : Value := .pointer (some ⟨b, 0, none⟩)
theorem zeroF (w : World) : (zeroValue 65).run Try.prog w = .ok (.pointer none) w := by kernel_rfl
theorem key_of {s : ByteArray} (hs : s.size ≤ maxLen) : keyOf Try.prog 9 (.string s) = some (ky s) := WideMaps.keyOf_string_mk Try.underlying9 hs

theorem isCap_yes (n : Int) (w : World) (h0 : 0 ≤ n) (h1 : n ≤ 16777216) :
    Calls Try.prog 26 #[.int .i64 n] w fun e w' => e = .returned (.bool true) ∧ w' = w := by
  have g1 : decide (0 ≤ n) = true := decide_eq_true h0
  have g2 : decide (n ≤ 16777216) = true := decide_eq_true h1
  go_enter Try.func26, Try.ntmps26
  go_wp2_with fail
  go_ret
  exact ⟨rfl, rfl⟩
theorem isCap_no (n : Int) (w : World) (h : n < 0 ∨ 16777216 < n) :
    Calls Try.prog 26 #[.int .i64 n] w fun e w' => e = .returned (.bool false) ∧ w' = w := by
  by_cases h0 : 0 ≤ n
  · have g1 : decide (0 ≤ n) = true := decide_eq_true h0
    have g2 : decide (n ≤ 16777216) = false := decide_eq_false (by omega)
    go_enter Try.func26, Try.ntmps26
    go_wp2_with fail
    go_ret
    exact ⟨rfl, rfl⟩
  · have g1 : decide (0 ≤ n) = false := decide_eq_false h0
    go_enter Try.func26, Try.ntmps26
    go_wp2_with fail
    go_ret
    exact ⟨rfl, rfl⟩

theorem isName_any (s : ByteArray) (w : World) :
    Calls Try.prog 46 #[.string s] w fun e w' => e = .returned (.bool (decide (1 ≤ s.size ∧ s.size ≤ 32))) ∧ w' = w := by
  by_cases h0 : 1 ≤ s.size
  · by_cases h1 : s.size ≤ 32
    · have g1 : decide (1 ≤ (s.size : Int)) = true := decide_eq_true (by omega)
      have g2 : decide ((s.size : Int) ≤ 32) = true := decide_eq_true (by omega)
      rw [decide_eq_true ⟨h0, h1⟩]
      go_enter Try.func46, Try.ntmps46
      go_wp2_with fail
      go_ret
      exact ⟨rfl, rfl⟩
    · have g1 : decide (1 ≤ (s.size : Int)) = true := decide_eq_true (by omega)
      have g2 : decide ((s.size : Int) ≤ 32) = false := decide_eq_false (by omega)
      rw [decide_eq_false (fun h => h1 h.2)]
      go_enter Try.func46, Try.ntmps46
      go_wp2_with fail
      go_ret
      exact ⟨rfl, rfl⟩
  · have g1 : decide (1 ≤ (s.size : Int)) = false := decide_eq_false (by omega)
    rw [decide_eq_false (fun h => h0 h.1)]
    go_enter Try.func46, Try.ntmps46
    go_wp2_with fail
    go_ret
    exact ⟨rfl, rfl⟩

section
variable {w : World} {d m : Nat} {L : List Fil} {cap arm : Int} {dead : Bool} {G : Nat → Prop}
theorem dead_any (h : Lay w d m L cap arm dead G) :
    Calls Try.prog 24 #[pt d] w fun e w' => e = .returned (.bool dead) ∧ w' = w := by
  have c3 := h.box.cell 3
  simp at c3
  go_enter Try.func24, Try.ntmps24
  go_wp2_with fail
  go_ret
  exact ⟨rfl, rfl⟩

theorem find_dead (h : Lay w d m L cap arm true G) (s : ByteArray) :
    Calls Try.prog 37 #[pt d, .string s] w fun e w' => e = .returned (.tuple #[.pointer none, .int .i64 12]) ∧ w' = w := by
  have hd := dead_any h
  go_enter Try.func37, Try.ntmps37
  go_wp2_with fail
  refine hd.mono ?_
  rintro e w' ⟨rfl, rfl⟩
  go_wp2_with fail
  go_ret2
  exact ⟨rfl, rfl⟩
theorem find_none (h : Lay w d m L cap arm false G) (s : ByteArray) (hs : s.size ≤ maxLen) (hn : fnd Fil.name s L = none) :
    Calls Try.prog 37 #[pt d, .string s] w fun e w' => e = .returned (.tuple #[.pointer none, .int .i64 3]) ∧ w' = w := by
  have hd := dead_any h
  have c0 := h.box.cell 0
  simp at c0
  obtain ⟨v, ps, hrun, hv⟩ := h.own.lookup law Try.underlying56 (zeroF w) (zd := .nil) (zp := []) rfl (key_of hs)
  rw [at_Dm, hn] at hv
  obtain rfl := fp_nil hv
  clear hv
  go_enter Try.func37, Try.ntmps37
  go_wp2_with fail
  refine hd.mono ?_
  rintro e w' ⟨rfl, rfl⟩
  go_wp2_with fail
  go_ret2
  exact ⟨rfl, rfl⟩
theorem find_some (h : Lay w d m L cap arm false G) (s : ByteArray) (hs : s.size ≤ maxLen) (f : Fil) (hf : fnd Fil.name s L = some f) :
    Calls Try.prog 37 #[pt d, .string s] w fun e w' => e = .returned (.tuple #[pt f.blk, .int .i64 0]) ∧ w' = w := by
  have hd := dead_any h
  have c0 := h.box.cell 0
  simp at c0
  obtain ⟨v, ps, hrun, hv⟩ := h.own.lookup law Try.underlying56 (zeroF w) (zd := .nil) (zp := []) rfl (key_of hs)
  rw [at_Dm, hf] at hv
  obtain rfl := fp_inv hv
  clear hv hf
  go_enter Try.func37, Try.ntmps37
  go_wp2_with fail
  refine hd.mono ?_
  rintro e w' ⟨rfl, rfl⟩
  go_wp2_with fail
  go_ret2
  exact ⟨rfl, rfl⟩
/-- The error that find has, and the record it gives. -/
def erF (dead : Bool) (s : ByteArray) (L : List Fil) : Int := if dead then 12 else if (fnd Fil.name s L).isNone then 3 else 0
def ptF (dead : Bool) (s : ByteArray) (L : List Fil) : Value := if dead then .pointer none else match fnd Fil.name s L with | some f => pt f.blk | none => .pointer none
theorem find_any (h : Lay w d m L cap arm dead G) (s : ByteArray) (hs : s.size ≤ maxLen) (er : Int) (p : Value) (he : er = erF dead s L) (hp : p = ptF dead s L) :
    Calls Try.prog 37 #[pt d, .string s] w fun e w' => e = .returned (.tuple #[p, .int .i64 er]) ∧ w' = w := by
  subst he hp
  unfold erF ptF
  cases dead
  · cases hf : fnd Fil.name s L
    · exact find_none h s hs hf
    · exact find_some h s hs _ hf
  · exact find_dead h s

/-- Whether step lets an operation happen; what it leaves. -/
theorem step_no {dead : Bool} (h : Lay w d m L cap 0 dead G) :
    Calls Try.prog 41 #[pt d] w fun e w' => e = .returned (.bool false) ∧ Lay w' d m L cap 0 true G ∧ w.grownBy w' (some d) ∧ w'.heap.size = w.heap.size := by
  have c2 := h.box.cell 2
  have c3 := h.box.cell 3
  have f3 := h.box.free 3
  simp at c2 c3
  have hb := h.box.set 3 (.bool true)
  go_enter Try.func41, Try.ntmps41
  go_wp2_with fail
  go_ret
  have hg : w.grownBy (w.setCell ⟨d, 3, none⟩ (.bool true)) (some d) := ⟨rfl, rfl, rfl, by simp [World.setCell], fun k _ hk => Below.heap_setCell _ _ _ _ (by simpa using hk)⟩
  exact ⟨rfl, h.turn_box (by simpa using hb) hg, hg, by simp [World.setCell]⟩
theorem step_yes (h : Lay w d m L cap arm dead G) (h0 : arm ≠ 0) (hlo : -9223372036854775808 ≤ arm) (hhi : arm ≤ 9223372036854775807) (arm' : Int) (ha : arm' = if 0 < arm then arm - 1 else arm) :
    Calls Try.prog 41 #[pt d] w fun e w' => e = .returned (.bool true) ∧ Lay w' d m L cap arm' dead G ∧ w.grownBy w' (some d) ∧ w'.heap.size = w.heap.size := by
  have c2 := h.box.cell 2
  have c3 := h.box.cell 3
  have f2 := h.box.free 2
  simp at c2 c3
  have g0 : (arm == 0) = false := by simpa using h0
  by_cases hp : 0 < arm
  · rw [if_pos hp] at ha
    have hb := h.box.set 2 (.int .i64 (arm - 1))
    have i1 : 1 ≤ arm := hp
    go_enter Try.func41, Try.ntmps41
    go_wp2_with fail
    go_ret
    have hg : w.grownBy (w.setCell ⟨d, 2, none⟩ (.int .i64 (arm - 1))) (some d) := ⟨rfl, rfl, rfl, by simp [World.setCell], fun k _ hk => Below.heap_setCell _ _ _ _ (by simpa using hk)⟩
    rw [ha]
    exact ⟨rfl, h.turn_box (by simpa using hb) hg, hg, by simp [World.setCell]⟩
  · rw [if_neg hp] at ha
    have i1 : arm ≤ 0 := by omega
    subst ha
    go_enter Try.func41, Try.ntmps41
    go_wp2_with fail
    go_ret
    exact ⟨rfl, h, World.grownBy.refl _ _, rfl⟩
end
end Dk
end Go.Proofs.Ythangnhccbnfbaa
