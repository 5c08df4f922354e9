/- The functions of package bits that pass bits to another function, for whatever function: passBits, passNumbers; Width, isWidth, bytesFor. -/
import Derived.Test.YtadhppfplndhoaaProg
import Derived.Test.YtadhppfplndhoaaBitsOps
import Derived.WalkSpells
import Derived.Lib.Hide
import Derived.RegionTactic
namespace Go.Proofs.Ytadhppfplndhoaa
open Go.RowKit
namespace Bc

theorem byte_bit (x : Int) (r : Nat) (h0 : 0 ≤ x) (h1 : x ≤ 255) : bits BinOp.and IntKind.i64 (x / 2 ^ r) 1 = x / 2 ^ r % 2 := by
  have hp := Bt.p0 r
  have h2 := Int.ediv_nonneg h0 (show (0 : Int) ≤ 2 ^ r by omega)
  have h3 := Int.ediv_le_self (2 ^ r) h0
  exact Bt.i64_and_one _ h2 (by omega)
theorem num_bit (x : Int) (r : Nat) (h0 : 0 ≤ x) (h1 : x ≤ 9223372036854775807) : bits BinOp.and IntKind.i64 (x / 2 ^ r) 1 = x / 2 ^ r % 2 := by
  have hp := Bt.p0 r
  have h2 := Int.ediv_nonneg h0 (show (0 : Int) ≤ 2 ^ r by omega)
  have h3 := Int.ediv_le_self (2 ^ r) h0
  exact Bt.i64_and_one _ h2 (by omega)

/-- The function f takes bits: called with bit k (and with what it has captured) it turns Inv k into Inv (k + 1). -/
def Takes (f : Nat) (cap : Array Value) (bit : Nat → Int) (cnt : Nat) (Inv : Nat → World → Prop) : Prop :=
  ∀ k w, k < cnt → Inv k w → Calls Try.prog f (#[.int .i64 (bit k)] ++ cap) w fun e w' => e = .returned (.tuple #[]) ∧ Inv (k + 1) w'
/-- The function f has a body, which a call enters. -/
def Goes (f : Nat) : Prop := ∀ (args : Array Value) (w : World), (callFunc f args).run Try.prog w = .ok (.enter f args) w

set_option maxHeartbeats 400000 in
theorem passBits_any (f : Nat) (cap : Array Value) (A : Option Addr) (m c B a cnt : Nat) (bs : List Int) (Inv : Nat → World → Prop) (w : World) (hm : m = bs.length) (hmx : m ≤ 1000000) (hbd : a + cnt ≤ 8 * m) (hB : Bt.InR 8 bs)
    (hf : Goes f) (hr : ∀ k w, Inv k w → Wd.Rd w B .u8 A bs) (hs : Takes f cap (fun k => bs.getD ((a + k) / 8) 0 / 2 ^ ((a + k) % 8) % 2) cnt Inv) (h0 : Inv 0 w) :
    Calls Try.prog 27 #[.slice A m c, .int .i64 a, .int .i64 cnt, .func (.func f) #[] cap] w fun e w' => e = .returned (.tuple #[]) ∧ Inv cnt w' := by
  have Hs := Lib.hid hs
  have Hr := Lib.hid hr
  have HB := Lib.hid hB
  have Hm := Lib.hid hm
  unfold Goes at hf
  clear hs hr hB hm
  go_enter Try.func27, Try.ntmps27
  go_wp2
  go_loopw [8] (fun i wr => ∃ k : Nat, i = .int .i64 (a + k : Nat) ∧ k ≤ cnt ∧ Inv k wr) (fun i _ => a + cnt - (intOf i).toNat)
  case atStart => exact ⟨0, rfl, Nat.zero_le _, h0⟩
  case round =>
    obtain ⟨k, rfl, hk, hI⟩ := hrel
    by_cases hlt : k < cnt
    · have hq : (a + k) / 8 < m := by omega
      obtain ⟨b, o, rfl, hbB, hcell⟩ := (Hr.out k wr hI) ((a + k) / 8) (by rw [← Hm.out]; exact hq)
      obtain ⟨x, hx⟩ : ∃ x, x = bs.getD ((a + k) / 8) 0 := ⟨_, rfl⟩
      have hx2 : 0 ≤ x ∧ x < 2 ^ 8 := HB.out x (by rw [hx]; simp [List.getD, show (a + k) / 8 < bs.length by rw [← Hm.out]; exact hq])
      have hx0 := hx2.1
      have hx1 : x ≤ 255 := by have := hx2.2; rw [show (2 : Int) ^ 8 = 256 by decide] at this; omega
      have hc := Hs.out k wr hlt hI
      dsimp only at hc
      rw [← hx, ← byte_bit x _ hx0 hx1] at hc
      rw [← hx] at hcell
      have Hc := Lib.hid hc
      clear hx hc hx2
      go_wp2_with fail
      refine Hc.out.mono ?_
      rintro e w' ⟨rfl, hI'⟩
      go_wp2_with fail
      go_roundw
      case rel => exact ⟨k + 1, by go_num, by omega, hI'⟩
      case measure => simp [intOf]; omega
    · go_wp2_with fail
      go_end0
      obtain rfl : k = cnt := by omega
      exact ⟨rfl, hI⟩

set_option maxHeartbeats 800000 in
theorem passNumbers_any (f : Nat) (cap : Array Value) (A : Option Addr) (m c B wd : Nat) (l : List Int) (Inv : Nat → World → Prop) (w : World) (hm : m = l.length) (hmx : m ≤ 4096) (hcap : m ≤ c) (hwd : wd ≤ 62) (hB : Bt.InR wd l)
    (hf : Goes f) (hr : ∀ k w, Inv k w → Wd.Rd w B .i64 A l) (hs : Takes f cap (fun k => l.getD (k / wd) 0 / 2 ^ (k % wd) % 2) (wd * m) Inv) (h0 : Inv 0 w) :
    Calls Try.prog 22 #[.slice A m c, .int .i64 wd, .func (.func f) #[] cap] w fun e w' => e = .returned (.tuple #[]) ∧ Inv (wd * m) w' := by
  have Hs := Lib.hid hs
  have Hr := Lib.hid hr
  have HB := Lib.hid hB
  have Hm := Lib.hid hm
  unfold Goes at hf
  clear hs hr hB hm
  go_enter Try.func22, Try.ntmps22
  go_wp2
  go_loopw [11] (fun i wr => ∃ k : Nat, i = .int .i64 k ∧ k ≤ m ∧ Inv (wd * k) wr) (fun i _ => m - (intOf i).toNat)
  case atStart => exact ⟨0, rfl, Nat.zero_le _, h0⟩
  case round =>
    obtain ⟨k, rfl, hk, hI⟩ := hrel
    by_cases hlt : k < m
    · obtain ⟨b, o, rfl, hbB, hcell⟩ := (Hr.out _ wr hI) k (by rw [← Hm.out]; exact hlt)
      obtain ⟨x, hx⟩ : ∃ x, x = l.getD k 0 := ⟨_, rfl⟩
      have hx2 : 0 ≤ x ∧ x < 2 ^ wd := HB.out x (by rw [hx]; simp [List.getD, show k < l.length by rw [← Hm.out]; exact hlt])
      have hx0 := hx2.1
      have hx1 : x ≤ 9223372036854775807 := by
        have := hx2.2
        have h3 := Bt.pup hwd
        rw [show (2 : Int) ^ 62 = 4611686018427387904 by decide] at h3
        omega
      rw [← hx] at hcell
      have Hx := Lib.hid hx
      clear hx hx2
      obtain ⟨wo, rfl⟩ : ∃ wo : World, wo = wr := ⟨_, rfl⟩
      go_wp2_with fail
      go_loopw [16] (fun i wr => ∃ j : Nat, i = .int .i64 j ∧ j ≤ wd ∧ Inv (wd * k + j) wr) (fun i _ => wd - (intOf i).toNat)
      case atStart => exact ⟨0, rfl, Nat.zero_le _, hI⟩
      case round =>
        obtain ⟨j, rfl, hj, hJ⟩ := hrel
        by_cases hjl : j < wd
        · have hlt2 : wd * k + j < wd * m := by
            have := Nat.mul_le_mul_left wd (show k + 1 ≤ m by omega)
            rw [Nat.mul_add, Nat.mul_one] at this
            omega
          have hc := Hs.out (wd * k + j) wr hlt2 hJ
          have e1 : (wd * k + j) / wd = k := by rw [Nat.mul_add_div (by omega), Nat.div_eq_of_lt hjl]; rfl
          have e2 : (wd * k + j) % wd = j := by rw [Nat.mul_add_mod, Nat.mod_eq_of_lt hjl]
          simp only [e1, e2] at hc
          rw [← Hx.out, ← num_bit x j hx0 hx1] at hc
          have Hc := Lib.hid hc
          clear hc e1 e2 hlt2
          go_wp2_with fail
          refine Hc.out.mono ?_
          rintro e w' ⟨rfl, hI'⟩
          go_wp2_with fail
          go_roundw
          case rel => exact ⟨j + 1, by go_num, by omega, hI'⟩
          case measure => simp [intOf]; omega
        · have Hj := Lib.hid hJ
          clear hJ
          go_wp2_with fail
          go_roundw
          case rel =>
            refine ⟨k + 1, by go_num, by omega, ?_⟩
            have := Hj.out
            rw [show wd * k + j = wd * (k + 1) by rw [Nat.mul_add, Nat.mul_one]; omega] at this
            exact this
          case measure => simp [intOf]; omega
    · go_wp2_with fail
      go_end0
      obtain rfl : k = m := by omega
      exact ⟨rfl, hI⟩

theorem isWidth_yes (n : Int) (w : World) (h1 : 0 ≤ n) (h2 : n ≤ 62) :
    Calls Try.prog 20 #[.int .i64 n] w fun e w' => e = .returned (.bool true) ∧ w = w' := by
  go_enter Try.func20, Try.ntmps20
  go_wp2
  go_ret
  exact ⟨rfl, rfl⟩
theorem isWidth_no (n : Int) (w : World) (h : n < 0 ∨ 62 < n) :
    Calls Try.prog 20 #[.int .i64 n] w fun e w' => e = .returned (.bool false) ∧ w = w' := by
  rcases h with h | h
  · go_enter Try.func20, Try.ntmps20
    go_wp2
    go_ret
    exact ⟨rfl, rfl⟩
  · have h' : 0 ≤ n := by omega
    go_enter Try.func20, Try.ntmps20
    go_wp2
    go_ret
    exact ⟨congrArg (fun b : Bool => Ending.returned (.bool b)) (decide_eq_false (by omega)), rfl⟩
theorem ret_int {k : IntKind} {a b : Int} (h : a = b) : Ending.returned (.int k a) = .returned (.int k b) := by rw [h]
theorem prod_le (n k : Nat) (h1 : n ≤ 4096) (h2 : k ≤ 62) : (n : Int) * (k : Int) ≤ 253952 ∧ 0 ≤ (n : Int) * (k : Int) := by
  have := Nat.mul_le_mul h1 h2
  exact ⟨by omega, by omega⟩
theorem bytesFor_any (n k : Nat) (w : World) (h1 : n ≤ 4096) (h2 : k ≤ 62) :
    Calls Try.prog 21 #[.int .i64 n, .int .i64 k] w fun e w' => e = .returned (.int .i64 ((n * k + 7) / 8 : Nat)) ∧ w = w' := by
  obtain ⟨p1, p2⟩ := prod_le n k h1 h2
  go_enter Try.func21, Try.ntmps21
  go_wp2
  go_ret
  exact ⟨ret_int (by omega), rfl⟩

/-- The number of bits of a number. -/
def wid (n : Int) : Nat := if h : 0 < n then wid (n / 2) + 1 else 0
termination_by n.toNat
decreasing_by omega
theorem wid_lo (n : Int) (h : n ≤ 0) : wid n = 0 := by rw [wid, dif_neg (by omega)]
theorem wid_hi (n : Int) (h : 0 < n) : wid n = wid (n / 2) + 1 := by rw [wid, dif_pos h]
theorem wid_le (k : Nat) : ∀ n : Int, (wid n ≤ k ↔ n < 2 ^ k) := by
  induction k with
  | zero =>
    intro n
    by_cases h : 0 < n
    · rw [wid_hi n h]; simp; omega
    · rw [wid_lo n (by omega)]; simp; omega
  | succ k ih =>
    intro n
    by_cases h : 0 < n
    · rw [wid_hi n h, Nat.add_le_add_iff_right, ih, Int.pow_succ]; omega
    · have := Bt.p0 (k + 1)
      rw [wid_lo n (by omega)]; omega
theorem wid_63 (n : Int) (h : n ≤ 9223372036854775807) : wid n ≤ 63 := by
  rw [wid_le, show (2 : Int) ^ 63 = 9223372036854775808 by decide]; omega

theorem Width_any (n : Int) (w : World) (h1 : -9223372036854775808 ≤ n) (h2 : n ≤ 9223372036854775807) :
    Calls Try.prog 13 #[.int .i64 n] w fun e w' => e = .returned (.int .i64 (wid n)) ∧ w = w' := by
  have hw := wid_63 n h2
  go_enter Try.func13, Try.ntmps13
  go_wp2_with fail
  go_loop [0, 3] (fun i d => ∃ (u : Int) (k : Nat), i = .int .i64 u ∧ d = .int .i64 k ∧ -9223372036854775808 ≤ u ∧ u ≤ 9223372036854775807 ∧ k + wid u = wid n) (fun i _ => (intOf i).toNat)
  case atStart => exact ⟨n, 0, rfl, rfl, h1, h2, by omega⟩
  case round =>
    obtain ⟨u, k, rfl, rfl, u1, u2, hk⟩ := hrel
    have Hk := Lib.hid hk
    have hk' : k ≤ 63 := by omega
    clear hk
    by_cases hlt : 0 < u
    · go_wp2_with fail
      go_round
      case rel =>
        have := Hk.out
        rw [wid_hi u hlt] at this
        refine ⟨u / 2, k + 1, rfl, by go_num, by omega, by omega, by omega⟩
      case measure => simp [intOf]; omega
    · go_wp2_with fail
      go_ret
      have := Hk.out
      rw [wid_lo u (by omega)] at this
      exact ⟨congrArg (fun x : Nat => Ending.returned (.int .i64 x)) (by simpa using this), rfl⟩
end Bc
end Go.Proofs.Ytadhppfplndhoaa
