/- slices.Clone of a slice of values; slices.SortFunc of no values. -/
import Derived.Test.YtiokajaadmfohaaDtSort
import Derived.Test.YtiokajaadmfohaaScVals
import Derived.WalkKit
namespace Go.Proofs.Ytiokajaadmfohaa
set_option maxRecDepth 20000
open Go.RowKit Go.Shelf
namespace Ds
open Va (Vl May ord null)
open Dc Dx
theorem ins_none (p : Option Addr) (c : Nat) (fv : Value) (w : World) :
    Calls Try.prog 44 #[.slice p 0 c, .int .i64 0, .int .i64 0, fv] w fun e w' => e = .returned (.tuple #[]) ∧ w' = w := by
  go_enter Try.func44, Try.ntmps44
  go_wp2
  refine wp_loop_rounds 1 ?_
  rw [rounds_succ]
  go_wp2
  go_end0
  exact ⟨rfl, rfl⟩
theorem pdq_none (p : Option Addr) (c : Nat) (lim : Int) (fv : Value) (w : World) :
    Calls Try.prog 37 #[.slice p 0 c, .int .i64 0, .int .i64 0, .int .i64 lim, fv] w fun e w' => e = .returned (.tuple #[]) ∧ w' = w := by
  have hi := Lib.hid fun W => ins_none p c fv W
  go_enter Try.func37, Try.ntmps37
  go_wp2
  refine wp_loop_rounds 1 ?_
  rw [rounds_succ]
  go_wp2_with (go_at_call 44; refine (hi.out _).mono ?_; rintro e w' ⟨rfl, rfl⟩)
  (try simp only [Exit.inBlock, Exit.then])
  refine bodyPost_ret (results_none rfl _ _ _) rfl ?_
  exact ⟨rfl, rfl⟩
theorem sort_none (p : Option Addr) (c : Nat) (fv : Value) (w : World) :
    Calls Try.prog 31 #[.slice p 0 c, fv] w fun e w' => e = .returned (.tuple #[]) ∧ w' = w := by
  have hp := Lib.hid fun lim W => pdq_none p c lim fv W
  have hl : ∀ W, Calls Try.prog 38 #[.int .u64 0] W fun e w' => (∃ n : Int, e = .returned (.int .i64 n)) ∧ w' = W := fun W => by
    have h := Any.bits_Len (SlLaysF0.n15.bits { Try.sortV with }) 0 W (by omega) (by omega)
    change Calls Try.prog 38 _ _ _ at h
    exact h.mono fun _ _ h => ⟨⟨_, h.1⟩, h.2⟩
  have Hl := Lib.hid hl
  clear hl
  go_enter Try.func31, Try.ntmps31
  go_wp2_with (first | (go_at_call 38; refine (Hl.out _).mono ?_; rintro e w' ⟨⟨n, rfl⟩, rfl⟩) | (go_at_call 37; refine (hp.out _ _).mono ?_; rintro e w' ⟨rfl, rfl⟩))
  go_end0
  exact ⟨rfl, rfl⟩
theorem clone_any (R : Option Addr) (m c : Nat) (L : List Vl) (w : World) (hV : Wd.Vs w R m c L) (hL : L.length ≤ 4096) :
    Calls Try.prog 30 #[.slice R m c] w fun e w' => ∃ v, e = .returned v ∧ w'.ownsRow w.heap.size 24 4 v L.length (Wd.flatV L) ∧ Below w.heap.size w w' := by
  rcases R with _ | ad
  · have hc := hV.nil rfl
    have hm : m = 0 := by have := hV.cap; omega
    have hl : L = [] := List.eq_nil_of_length_eq_zero (by rw [← hV.len]; exact hm)
    subst hc hm hl
    have hnil : ∀ (w : World) (n c : Nat), (binOp .eql 22 (.slice none n c) (.slice none 0 0)).run Try.prog w = .ok (.bool true) w := fun _ _ _ => by kernel_rfl
    clear hV
    go_enter Try.func30, Try.ntmps30
    go_wp2
    go_ret
    exact ⟨_, rfl, World.ownsRow_nil _ _ _ _, Below.refl _ _⟩
  · have hnil : ∀ (w : World) (n c : Nat) , (binOp .eql 22 (.slice (some ad) n c) (.slice none 0 0)).run Try.prog w = .ok (.bool false) w := fun _ _ _ => by kernel_rfl
    have hb := (Below.refl w.heap.size w).alloc (Nat.le_refl _) (.cells #[] 24)
    have HV := Lib.hid (hV.below hb)
    have ho := World.ownsRow_lit (e := 24) (size := 4) (base := w.heap.size) w #[] 0 (Nat.le_refl _) (by simp [maxLen]) rfl
    clear hV
    go_enter Try.func30, Try.ntmps30
    go_wp2_with (at_builtin; refine Wd.wpList_appVs _ rfl (.tmp 5) (.tmp 6) rfl w.heap.size (.slice (some ⟨w.heap.size, 0, none⟩) 0 0) [] rfl ho (some ad) m c L rfl HV.out (by simp; omega) (by simp) ?_; intro v' w1 hown hg)
    go_ret
    exact ⟨v', rfl, by simpa using hown, hb.grown hg (by simp) (by simp [Value.ownBlock])⟩
end Ds
end Go.Proofs.Ytiokajaadmfohaa
