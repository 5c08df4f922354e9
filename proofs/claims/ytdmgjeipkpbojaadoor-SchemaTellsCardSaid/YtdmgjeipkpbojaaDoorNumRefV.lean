/- What the reference functions of layer 1 do: digits, PutLen. -/
import Derived.Test.YtdmgjeipkpbojaaDoorNumPutV
import Derived.Test.YtdmgjeipkpbojaaDoorRefSame
import Derived.Deep.QuietTactic
import Derived.BigQuiet
namespace Go.Proofs.YtdmgjeipkpbojaaDoor
set_option maxRecDepth 20000
open Go.RowKit
namespace Nc

set_option maxHeartbeats 400000 in
theorem digits_own (f : Nat) : ∀ (half odd : Int) (w : World), f ≤ 9 → 0 ≤ half → half ≤ 9223372036854775807 → 0 ≤ odd → odd ≤ 1 → 2 * half + odd < 128 ^ (f + 1) →
    Calls Tryd.prog 56 #[.int .i64 half, .int .i64 odd] w fun e w' => ∃ v, e = .returned v ∧ w'.ownsRow w.heap.size 5 1 v (Nm.vdF f (2 * half + odd)).length ((Nm.vdF f (2 * half + odd)).map (Value.int .u8)) ∧ Below w.heap.size w w' := by
  obtain ⟨i0, hi, hz0, hz1, hz2⟩ := info_parts info_u8
  induction f with
  | zero =>
    intro half odd w hf9 h0 h1 o0 o1 hf
    have hf' : half ≤ 63 := by simp at hf; omega
    clear hf
    go_enter Tryd.func56, Tryd.ntmps56
    go_wp2_with fail
    go_ret
    refine ⟨_, rfl, ?_, (Below.refl _ _).alloc (Nat.le_refl _) _⟩
    exact World.ownsRow_lit w _ 1 (Nat.le_refl _) (by simp [maxLen]) rfl
  | succ f ih =>
    intro half odd w hf9 h0 h1 o0 o1 hf
    by_cases hh : half < 64
    · rw [Nm.vdF_lo _ _ (by omega)]
      clear hf
      go_enter Tryd.func56, Tryd.ntmps56
      go_wp2_with fail
      go_ret
      refine ⟨_, rfl, ?_, (Below.refl _ _).alloc (Nat.le_refl _) _⟩
      exact World.ownsRow_lit w _ 1 (Nat.le_refl _) (by simp [maxLen]) rfl
    · have hc := ih (half / 64 / 2) (half / 64 % 2) w (by omega) (by omega) (by omega) (by omega) (by omega) (by rw [Int.pow_succ] at hf; omega)
      have e1 : 2 * (half / 64 / 2) + half / 64 % 2 = (2 * half + odd) / 128 := by omega
      have hf' := (Nm.vdF_len f ((2 * half + odd) / 128)).2
      rw [e1] at hc
      have hv := Nm.vdF_hi f (2 * half + odd) (by omega)
      have e2 : (2 * half + odd) % 128 + 128 = 2 * (half % 64) + odd + 128 := by omega
      rw [e2] at hv
      rw [hv]
      generalize Nm.vdF f ((2 * half + odd) / 128) = ds at *
      have Hc := Lib.hid hc
      clear hv e1 e2 hc ih hf
      go_enter Tryd.func56, Tryd.ntmps56
      go_wp2_with fail
      refine Hc.out.mono ?_
      rintro e w1 ⟨v1, rfl, hO1, hB⟩
      obtain ⟨A, n, c, rfl, hS⟩ := Wd.Sl.of_own hO1
      have hn := hS.len
      clear hO1
      have Hn := Lib.hid hn
      clear hn
      go_wp2_with (at_builtin; refine Wd.wpList_app _ rfl (.tmp 28) (.tmp 29) 29 rfl w1.heap.size 5 i0 _ .u8 1 Tryd.underlying29 hi hz0 hz1 hz2 rfl (.slice (some ⟨w1.heap.size, 0, none⟩) 1 1) [2 * (half % 64) + odd + 128] rfl (World.ownsRow_lit w1 _ 1 (Nat.le_refl _) (by simp [maxLen]) rfl) w1.heap.size A n c ds rfl Hn.out hS.nil (hS.rd.below ((Below.refl _ _).alloc (Nat.le_refl _) _)) (by simp; omega) (by simp [maxLen]; omega) (by simp) ?_; intro v' w2 hown hbel)
      go_ret
      refine ⟨_, rfl, Wd.own_down hown hB.size, ?_⟩
      exact hB.trans ((((Below.refl _ _).alloc (Nat.le_refl _) _).grown hbel (by simp) (by simp [Value.ownBlock])).mono hB.size)

theorem digits_any (f : Nat) (half odd : Int) (w : World) (hf : f ≤ 9) (h0 : 0 ≤ half) (h1 : half ≤ 9223372036854775807) (o0 : 0 ≤ odd) (o1 : odd ≤ 1) (hb : 2 * half + odd < 128 ^ (f + 1)) :
    Calls Tryd.prog 56 #[.int .i64 half, .int .i64 odd] w (Wd.Out w .u8 (Nm.vdF f (2 * half + odd))) :=
  (digits_own f half odd w hf h0 h1 o0 o1 hb).mono fun _ _ ⟨_, he, ho, hb⟩ => he ▸ Wd.Out.of_own ho hb

/-- PutLen of the reference, with whose memory it is. -/
theorem refPutLen_own (n : Int) (w : World) (h0 : 0 ≤ n) (h1 : n ≤ 9223372036854775807) :
    Calls Tryd.prog 41 #[.int .i64 n] w fun e w' => ∃ v, e = .returned v ∧ w'.ownsRow w.heap.size 5 1 v (Nm.vd n).length ((Nm.vd n).map (Value.int .u8)) ∧ Below w.heap.size w w' := by
  have hc := digits_own 9 (n / 2) (n % 2) w (by omega) (by omega) (by omega) (by omega) (by omega) (by rw [Nm.pow10]; omega)
  have e : 2 * (n / 2) + n % 2 = n := by omega
  rw [e] at hc
  have Hc := Lib.hid hc
  clear hc e
  go_enter Tryd.func41, Tryd.ntmps41
  go_wp2_with fail
  refine Hc.out.mono ?_
  rintro e w1 ⟨v, rfl, hO⟩
  go_wp2_with fail
  go_ret
  exact ⟨v, rfl, hO⟩

theorem refPutLen_any (n : Int) (w : World) (h0 : -9223372036854775808 ≤ n) (h1 : n ≤ 9223372036854775807) :
    Calls Tryd.prog 41 #[.int .i64 n] w (Wd.Out w .u8 (if n < 0 then [] else Nm.vd n)) := by
  by_cases hn : n < 0
  · rw [if_pos hn]
    go_enter Tryd.func41, Tryd.ntmps41
    go_wp2_with fail
    go_ret
    exact ⟨none, 0, 0, rfl, Wd.Sl.none_ _ _, Below.refl _ _⟩
  · rw [if_neg hn]
    have hc := digits_any 9 (n / 2) (n % 2) w (by omega) (by omega) (by omega) (by omega) (by omega) (by rw [Nm.pow10]; omega)
    have e : 2 * (n / 2) + n % 2 = n := by omega
    rw [e] at hc
    have Hc := Lib.hid hc
    have hn' : 0 ≤ n := by omega
    clear hc e hn
    go_enter Tryd.func41, Tryd.ntmps41
    go_wp2_with fail
    refine Hc.out.mono ?_
    rintro e w1 ⟨A, n, c, rfl, hS⟩
    go_wp2_with fail
    go_ret
    exact ⟨A, n, c, rfl, hS⟩

end Nc
end Go.Proofs.YtdmgjeipkpbojaaDoor
