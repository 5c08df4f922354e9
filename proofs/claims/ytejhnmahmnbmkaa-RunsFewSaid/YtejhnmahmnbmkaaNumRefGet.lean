/- What the reference function GetLen of layer 1 does with what was written for a small number: run, halves, GetLen. -/
import Derived.Test.YtejhnmahmnbmkaaNumRef
import Derived.Test.YtejhnmahmnbmkaaNumGet
namespace Go.Proofs.Ytejhnmahmnbmkaa
open Go.RowKit
namespace Nc

/-- The digits of a number below 128 * 128. -/
theorem vd_one (n : Int) (h : n < 128) : Nm.vd n = [n] := Nm.vdF_lo 9 n h
theorem vd_two (n : Int) (h : 128 ≤ n) (h2 : n < 16384) : Nm.vd n = [n % 128 + 128, n / 128] := by
  unfold Nm.vd
  rw [Nm.vdF_hi _ _ (by omega), Nm.vdF_lo _ _ (by omega)]

theorem run_one (A : Option Addr) (n c : Nat) (u : Int) (more : List Int) (w : World) (hS : Wd.Sl w .u8 A n c (u :: more)) (h0 : 0 ≤ u) (h1 : u < 128) :
    Calls Try.prog 36 #[.slice A n c] w fun e w' => e = .returned (.tuple #[.int .i64 1, .int .i64 0]) ∧ w = w' := by
  have hl := hS.len
  have hn : 1 ≤ n := by rw [hl]; simp
  have hc := hS.cap
  have hx := hS.max
  unfold maxLen at hx
  obtain ⟨b, o, rfl, _, hcell⟩ := hS.rd 0 (by simp)
  have c0 : w.cell? ⟨b, o, none⟩ = some (.int .u8 u) := hcell
  have hn0 : (0 : Int) < (n : Int) := by omega
  have hn1 : 0 < n := by omega
  clear hcell hl hS
  go_enter Try.func36, Try.ntmps36
  go_wp2
  refine wp_loop_rounds 1 ?_
  rw [rounds_succ]
  rcases (show u ≤ 0 ∨ 0 < u by omega) with q | q
  · go_wp2
    go_ret2
    exact ⟨rfl, rfl⟩
  · go_wp2
    go_ret2
    exact ⟨rfl, rfl⟩

theorem run_two (A : Option Addr) (n c : Nat) (x y : Int) (more : List Int) (w : World) (hS : Wd.Sl w .u8 A n c (x :: y :: more)) (h0 : 128 ≤ x) (h1 : x ≤ 255) (h2 : 1 ≤ y) (h3 : y < 128) :
    Calls Try.prog 36 #[.slice A n c] w fun e w' => e = .returned (.tuple #[.int .i64 2, .int .i64 0]) ∧ w = w' := by
  have hl := hS.len
  have hn : 2 ≤ n := by rw [hl]; simp
  have hc := hS.cap
  have hx := hS.max
  unfold maxLen at hx
  obtain ⟨b, o, rfl, _, hcell⟩ := hS.rd.some_ (by simp)
  have c0 : w.cell? ⟨b, o, none⟩ = some (.int .u8 x) := hcell 0 (by simp)
  have c1 : w.cell? ⟨b, o + 1, none⟩ = some (.int .u8 y) := hcell 1 (by simp)
  clear hcell hl hS
  go_enter Try.func36, Try.ntmps36
  go_wp2
  go_loop [4] (fun i => i = .int .i64 0 ∨ i = .int .i64 1) (fun i => 1 - (intOf i).toNat)
  case atStart => exact .inl rfl
  case round =>
    rcases hrel with rfl | rfl
    · have hn0 : (0 : Int) < (n : Int) := by omega
      go_wp2
      go_round
      case rel => exact .inr rfl
      case measure => simp [intOf]
    · have hn0 : (1 : Int) < (n : Int) := by omega
      have hn1 : 1 < n := by omega
      have hy0 : (y == 0) = false := by rw [beq_eq_false_iff_ne]; omega
      go_wp2
      go_ret2
      exact ⟨rfl, rfl⟩

theorem halves_one (A : Option Addr) (c : Nat) (u : Int) (w : World) (hS : Wd.Sl w .u8 A 1 c [u]) (h0 : 0 ≤ u) (h1 : u < 128) :
    Calls Try.prog 37 #[.slice A 1 c] w fun e w' => e = .returned (.tuple #[.int .i64 (u / 2), .int .i64 (u % 2)]) ∧ w = w' := by
  obtain ⟨b, o, rfl, _, hcell⟩ := hS.rd 0 (by simp)
  have c0 : w.cell? ⟨b, o, none⟩ = some (.int .u8 u) := hcell
  clear hcell hS
  go_enter Try.func37, Try.ntmps37
  go_wp2
  refine wp_loop_rounds 1 ?_
  rw [rounds_succ]
  go_wp2
  go_ret2
  exact ⟨congrArg (fun z : Int => Ending.returned (.tuple #[.int .i64 z, .int .i64 (u % 2)])) (show u % 128 / 2 = u / 2 by omega), rfl⟩

theorem halves_two (A : Option Addr) (c : Nat) (x y : Int) (w : World) (hS : Wd.Sl w .u8 A 2 c [x, y]) (h0 : 128 ≤ x) (h1 : x ≤ 255) (h2 : 1 ≤ y) (h3 : y < 128) :
    Calls Try.prog 37 #[.slice A 2 c] w fun e w' => e = .returned (.tuple #[.int .i64 (x % 128 / 2 + y * 64), .int .i64 (x % 2)]) ∧ w = w' := by
  obtain ⟨b, o, rfl, _, hcell⟩ := hS.rd.some_ (by simp)
  have c0 : w.cell? ⟨b, o, none⟩ = some (.int .u8 x) := hcell 0 (by simp)
  have c1 : w.cell? ⟨b, o + 1, none⟩ = some (.int .u8 y) := hcell 1 (by simp)
  clear hcell hS
  go_enter Try.func37, Try.ntmps37
  go_wp2
  go_loop [4, 6, 7] (fun h p i => (h = .int .i64 (x % 128 / 2) ∧ p = .int .i64 64 ∧ i = .int .i64 1) ∨ (h = .int .i64 (x % 128 / 2 + y % 128 * 64) ∧ p = .int .i64 8192 ∧ i = .int .i64 2)) (fun _ _ i => 2 - (intOf i).toNat)
  case atStart => exact .inl ⟨rfl, rfl, rfl⟩
  case round =>
    rcases hrel with ⟨rfl, rfl, rfl⟩ | ⟨rfl, rfl, rfl⟩
    · go_wp2
      go_round
      case rel => exact .inr ⟨rfl, rfl, rfl⟩
      case measure => simp [intOf]
    · go_wp2
      go_ret2
      exact ⟨congrArg (fun z : Int => Ending.returned (.tuple #[.int .i64 z, .int .i64 (x % 2)])) (show x % 128 / 2 + y % 128 * 64 = x % 128 / 2 + y * 64 by omega), rfl⟩

/-- GetLen of what was written for a number below 128 * 128, whatever stands behind. -/
theorem refGetLen_any (A : Option Addr) (m c : Nat) (n : Int) (more : List Int) (w : World) (hS : Wd.Sl w .u8 A m c (Nm.vd n ++ more)) (h0 : 0 ≤ n) (h1 : n < 16384) :
    Calls Try.prog 25 #[.slice A m c] w fun e w' => e = .returned (.tuple #[.int .i64 n, .int .i64 (Nm.vd n).length, .int .i64 0]) ∧ w = w' := by
  have hc := hS.cap
  have hx := hS.max
  unfold maxLen at hx
  by_cases h : n < 128
  · rw [vd_one n h] at hS ⊢
    have hm : 1 ≤ m := by rw [hS.len]; simp
    have c1 := run_one A m c n more w hS h0 h
    have hh := hS.head 1 hm
    have c2 := halves_one A c n w hh h0 h
    have C1 := Lib.hid c1
    have C2 := Lib.hid c2
    clear c1 c2 hh hS
    go_enter Try.func25, Try.ntmps25
    go_wp2_with fail
    refine C1.out.mono ?_
    rintro e w1 ⟨rfl, rfl⟩
    go_wp2_with fail
    refine C2.out.mono ?_
    rintro e w1 ⟨rfl, rfl⟩
    go_wp2_with fail
    go_ret3
    exact ⟨congrArg (fun z : Int => Ending.returned (.tuple #[.int .i64 z, .int .i64 1, .int .i64 0])) (show 2 * (n / 2) + n % 2 = n by omega), rfl⟩
  · rw [vd_two n (by omega) h1] at hS ⊢
    have hm : 2 ≤ m := by rw [hS.len]; simp
    have b1 : 128 ≤ n % 128 + 128 := by omega
    have b2 : n % 128 + 128 ≤ 255 := by omega
    have b3 : 1 ≤ n / 128 := by omega
    have b4 : n / 128 < 128 := by omega
    have c1 := run_two A m c _ _ more w hS b1 b2 b3 b4
    have hh := hS.head 2 hm
    have c2 := halves_two A c _ _ w hh b1 b2 b3 b4
    obtain ⟨x, hx'⟩ : ∃ x, x = n % 128 + 128 := ⟨_, rfl⟩
    obtain ⟨y, hy'⟩ : ∃ y, y = n / 128 := ⟨_, rfl⟩
    have hv : 2 * (x % 128 / 2 + y * 64) + x % 2 = n := by omega
    rw [← hx', ← hy'] at c2
    rw [← hx'] at b1 b2
    rw [← hy'] at b3 b4
    have C1 := Lib.hid c1
    have C2 := Lib.hid c2
    have Hv := Lib.hid hv
    clear c1 c2 hh hS hv hx' hy'
    go_enter Try.func25, Try.ntmps25
    go_wp2_with fail
    refine C1.out.mono ?_
    rintro e w1 ⟨rfl, rfl⟩
    go_wp2_with fail
    refine C2.out.mono ?_
    rintro e w1 ⟨rfl, rfl⟩
    go_wp2_with fail
    go_ret3
    exact ⟨congrArg (fun z : Int => Ending.returned (.tuple #[.int .i64 z, .int .i64 2, .int .i64 0])) Hv.out, rfl⟩
end Nc
end Go.Proofs.Ytejhnmahmnbmkaa
