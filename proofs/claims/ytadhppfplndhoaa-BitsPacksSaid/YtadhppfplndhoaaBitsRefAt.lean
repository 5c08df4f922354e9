/- What the reference's At does. -/
import Derived.Test.YtadhppfplndhoaaBitsRef
namespace Go.Proofs.Ytadhppfplndhoaa
open Go.RowKit
namespace Wd
/-- The cut 's[lo:hi]'. -/
theorem Sl.mid {w : World} {k : IntKind} {A : Option Addr} {n c : Nat} {ys : List Int} (h : Sl w k A n c ys) (lo hi : Nat) (h1 : lo ≤ hi) (h2 : hi ≤ n) : Sl w k (if c = lo then A else A.map (·.add lo)) (hi - lo) (c - lo) ((ys.drop lo).take (hi - lo)) :=
  (h.cut lo (by omega)).head (hi - lo) (by omega)
theorem Sl.mid' {w : World} {k : IntKind} {A : Option Addr} {n c : Nat} {ys : List Int} (h : Sl w k A n c ys) (lo hi : Nat) (h1 : lo ≤ hi) (h2 : hi ≤ n) (hc : c ≠ lo) : Sl w k (A.map (·.add lo)) (hi - lo) (c - lo) ((ys.drop lo).take (hi - lo)) := by
  have := h.mid lo hi h1 h2
  rwa [if_neg hc] at this
end Wd
namespace Bc
theorem bits_cut (m : Nat) (v : Int) (lo n : Nat) : Bt.InR 1 (((Bt.toD 1 m v).drop lo).take n) := fun x hx => Bt.toD_inR 1 m v x (List.mem_of_mem_drop (List.mem_of_mem_take hx))
theorem next_mul (i wd : Nat) : (i + 1) * wd - i * wd = wd := by rw [Nat.add_mul, Nat.one_mul]; omega

set_option maxHeartbeats 400000 in
theorem refAt_yes (A : Option Addr) (m c i wd : Nat) (bs : List Int) (w : World) (hS : Wd.Sl w .u8 A m c bs) (hB : Bt.InR 8 bs) (hm : m ≤ 1000000) (hwd0 : 1 ≤ wd) (hwd : wd ≤ 62) (hi : i ≤ 1099511627776) (hfit : (i + 1) * wd ≤ 8 * m) :
    Calls Try.prog 19 #[.slice A m c, .int .i64 i, .int .i64 wd] w fun e w' => e = .returned (.int .i64 (Bt.dig wd (Bt.ofD 8 bs) i)) ∧ Below w.heap.size w w' := by
  have e1 : ((i : Int) + 1) * (wd : Int) = (((i + 1) * wd : Nat) : Int) := by simp
  have e2 := mul_cast i wd
  have hfit2 : i * wd + wd ≤ 8 * m := by rw [Nat.add_mul, Nat.one_mul] at hfit; exact hfit
  have p1 : ((i : Int) + 1) * (wd : Int) ≤ 8 * (m : Int) := by rw [e1]; omega
  have p2 : 0 ≤ ((i : Int) + 1) * (wd : Int) := by rw [e1]; omega
  have p3 : (i : Int) * (wd : Int) ≤ 8 * (m : Int) := by rw [e2]; omega
  have p4 : 0 ≤ (i : Int) * (wd : Int) := by rw [e2]; omega
  have p5 : (i : Int) * (wd : Int) ≤ ((i : Int) + 1) * (wd : Int) := by rw [e1, e2, Nat.add_mul]; omega
  have p6 : i * wd ≤ (i + 1) * wd := by rw [Nat.add_mul]; omega
  have hfin : Bt.ofD 1 (((Bt.toD 1 (8 * m) (Bt.ofD 8 bs)).drop (i * wd)).take ((i + 1) * wd - i * wd)) = Bt.dig wd (Bt.ofD 8 bs) i := by
    rw [next_mul, Nat.mul_comm i wd]
    exact Bt.ofD_cut wd (8 * m) i _ (by rw [Nat.mul_comm wd i]; exact hfit2)
  have Hfin := Lib.hid hfin
  have Hn := Lib.hid (next_mul i wd)
  clear e1 e2 hfin
  go_enter Try.func19, Try.ntmps19
  go_wp2_with fail
  refine (spread_any A m c bs w hS hB hm).mono ?_
  rintro e w1 ⟨A1, n1, c1, rfl, hS1, hB1⟩
  have hn1 : n1 = 8 * m := by have := hS1.len; rw [Bt.toD_len] at this; exact this
  have hc1 := hS1.cap
  have hx1 := hS1.max
  unfold maxLen at hx1
  subst hn1
  go_wp2_with fail
  have hM := hS1.mid' (i * wd) ((i + 1) * wd) p6 hfit (by omega)
  refine (value_any _ _ _ _ w1 hM (bits_cut _ _ _ _) (by rw [Hn.out]; omega)).mono ?_
  rintro e w2 ⟨rfl, rfl⟩
  rw [Hfin.out]
  go_wp2_with fail
  go_ret
  exact ⟨rfl, hB1⟩

set_option maxHeartbeats 400000 in
theorem refAt_no (A : Option Addr) (m c : Nat) (i wd : Int) (w : World) (hm : m ≤ 1000000) (i1 : -9223372036854775808 ≤ i) (i2 : i ≤ 9223372036854775807) (h : ¬ (1 ≤ wd ∧ AtOk m i wd)) :
    Calls Try.prog 19 #[.slice A m c, .int .i64 i, .int .i64 wd] w fun e w' => e = .returned (.int .i64 0) ∧ Below w.heap.size w w' := by
  rcases (show wd < 1 ∨ (1 ≤ wd ∧ 62 < wd) ∨ (1 ≤ wd ∧ wd ≤ 62) by omega) with r | ⟨r, r2⟩ | ⟨r, r2⟩
  · clear h
    go_enter Try.func19, Try.ntmps19
    go_wp2_with fail
    go_ret
    exact ⟨rfl, Below.refl _ _⟩
  · clear h
    go_enter Try.func19, Try.ntmps19
    go_wp2_with fail
    go_ret
    exact ⟨rfl, Below.refl _ _⟩
  · rcases (show i < 0 ∨ (0 ≤ i ∧ 1099511627776 < i) ∨ (0 ≤ i ∧ i ≤ 1099511627776) by omega) with q | ⟨q, q2⟩ | ⟨q, q2⟩
    · clear h
      go_enter Try.func19, Try.ntmps19
      go_wp2_with fail
      go_ret
      exact ⟨rfl, Below.refl _ _⟩
    · clear h
      go_enter Try.func19, Try.ntmps19
      go_wp2_with fail
      go_ret
      exact ⟨rfl, Below.refl _ _⟩
    · have p1 : 8 * (m : Int) < (i + 1) * wd := by
        have : ¬ (i + 1) * wd ≤ 8 * (m : Int) := fun e => h ⟨r, by omega, r2, q, q2, e⟩
        omega
      have p2 : (i + 1) * wd ≤ 68169720922174 := by
        have h1 := Int.mul_le_mul_of_nonneg_left r2 (show 0 ≤ i + 1 by omega)
        omega
      clear h
      go_enter Try.func19, Try.ntmps19
      go_wp2_with fail
      go_ret
      exact ⟨rfl, Below.refl _ _⟩

theorem dig_none (v : Int) (i : Nat) : Bt.dig 0 v i = 0 := by
  have h1 := Bt.dig_lo 0 v i
  have h2 := Bt.dig_hi 0 v i
  rw [Int.pow_zero] at h2
  omega
theorem refAt_any (A : Option Addr) (m c : Nat) (i wd : Int) (bs : List Int) (w : World) (hS : Wd.Sl w .u8 A m c bs) (hB : Bt.InR 8 bs) (hm : m ≤ 1000000) (i1 : -9223372036854775808 ≤ i) (i2 : i ≤ 9223372036854775807) :
    Calls Try.prog 19 #[.slice A m c, .int .i64 i, .int .i64 wd] w fun e w' => e = .returned (.int .i64 (atV bs i wd)) ∧ Below w.heap.size w w' := by
  by_cases h : 1 ≤ wd ∧ AtOk bs.length i wd
  · have e : atV bs i wd = Bt.dig wd.toNat (Bt.ofD 8 bs) i.toNat := if_pos h.2
    rw [e]
    obtain ⟨h0, h1, h2, h3, h4, h5⟩ := h
    obtain ⟨j, rfl⟩ := Int.eq_ofNat_of_zero_le h3
    obtain ⟨k, rfl⟩ := Int.eq_ofNat_of_zero_le h1
    have e1 : ((j : Int) + 1) * (k : Int) = (((j + 1) * k : Nat) : Int) := by simp
    rw [e1] at h5
    refine refAt_yes A m c j k bs w hS hB hm (by omega) (by omega) (by omega) ?_
    rw [hS.len]
    omega
  · have e : atV bs i wd = 0 := by
      unfold atV
      by_cases h1 : AtOk bs.length i wd
      · rw [if_pos h1]
        have : wd.toNat = 0 := by
          have h2 := h1.1
          have : ¬ 1 ≤ wd := fun q => h ⟨q, h1⟩
          omega
        rw [this]
        exact dig_none _ _
      · exact if_neg h1
    rw [e]
    exact refAt_no A m c i wd w hm i1 i2 (by rw [hS.len]; exact h)
end Bc
end Go.Proofs.Ytadhppfplndhoaa
