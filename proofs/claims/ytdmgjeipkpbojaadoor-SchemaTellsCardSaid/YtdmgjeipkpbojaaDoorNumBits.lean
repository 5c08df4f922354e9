/- The bit operations of layer 1 (the fold of signed numbers, digits put together) as plain arithmetic. -/
import Derived.WalkKit
import Derived.WalkSmall
import Derived.Test.YtdmgjeipkpbojaaDoorNumMath
namespace Go.Proofs.YtdmgjeipkpbojaaDoor
set_option maxRecDepth 20000
namespace Nm

theorem xor_ones (x : Nat) (h : x < 2 ^ 64) : x ^^^ (2 ^ 64 - 1) = 2 ^ 64 - 1 - x := by
  have e : x ^^^ (2 ^ 64 - 1) = ((BitVec.ofNat 64 x) ^^^ (BitVec.allOnes 64)).toNat := by
    rw [BitVec.toNat_xor, BitVec.toNat_allOnes, BitVec.toNat_ofNat, Nat.mod_eq_of_lt h]
  rw [e, BitVec.xor_allOnes, BitVec.toNat_not, BitVec.toNat_ofNat, Nat.mod_eq_of_lt h]
theorem zig_bits (n : Int) (h1 : -9223372036854775808 ≤ n) (h2 : n ≤ 9223372036854775807) :
    bits BinOp.xor IntKind.u64 (IntKind.u64.wrap (IntKind.u64.wrap n * 2)) (IntKind.u64.wrap (n / 9223372036854775808)) = zz n := by
  simp only [IntKind.wrap_u64]
  unfold zz
  by_cases h : n < 0
  · have e1 : n / 9223372036854775808 % 18446744073709551616 = 18446744073709551615 := by omega
    have e2 : n % 18446744073709551616 * 2 % 18446744073709551616 = 2 * n + 18446744073709551616 := by omega
    rw [if_pos h, e1, e2, u64_xor _ _ (by omega) (by omega) (by omega) (by omega)]
    have e3 : (18446744073709551615 : Int).toNat = 2 ^ 64 - 1 := by decide
    rw [e3, xor_ones _ (by omega)]
    omega
  · have e1 : n / 9223372036854775808 % 18446744073709551616 = 0 := by omega
    have e2 : n % 18446744073709551616 * 2 % 18446744073709551616 = 2 * n := by omega
    rw [if_neg h, e1, e2, u64_xor _ _ (by omega) (by omega) (by omega) (by omega)]
    have e3 : (0 : Int).toNat = 0 := rfl
    rw [e3, Nat.xor_zero]
    omega
theorem unzig_bits (u : Int) (h1 : 0 ≤ u) (h2 : u ≤ 18446744073709551615) :
    bits BinOp.xor IntKind.i64 (u / 2) (RowKit.wrap64 (-RowKit.wrap64 (bits BinOp.and IntKind.u64 u 1))) = unz u := by
  rw [and_one_u64 u h1 h2]
  rw [IntWalk.wrap64_in (u % 2) ⟨by omega, by omega⟩, IntWalk.wrap64_in (-(u % 2)) ⟨by omega, by omega⟩]
  unfold unz
  by_cases h : u % 2 = 1
  · rw [if_pos h, h]
    show IntKind.i64.wrap ((BitVec.ofInt 64 (u / 2) ^^^ BitVec.ofInt 64 (-1)).toNat : Int) = _
    have e1 : BitVec.ofInt 64 (-1) = BitVec.allOnes 64 := by decide
    rw [e1, BitVec.xor_allOnes, BitVec.toNat_not]
    have e2 : (BitVec.ofInt 64 (u / 2)).toNat = (u / 2).toNat := by
      obtain ⟨m, hm⟩ : ∃ m : Nat, u / 2 = (m : Int) := ⟨(u / 2).toNat, by omega⟩
      rw [hm, BitVec.ofInt_natCast, BitVec.toNat_ofNat, Nat.mod_eq_of_lt (by omega)]; rfl
    rw [e2, IntKind.wrap_i64]
    omega
  · rw [if_neg h]
    have h0 : u % 2 = 0 := by omega
    rw [h0]
    show IntKind.i64.wrap ((BitVec.ofInt 64 (u / 2) ^^^ BitVec.ofInt 64 (-0)).toNat : Int) = _
    have e1 : BitVec.ofInt 64 (-0) = 0#64 := by decide
    rw [e1, BitVec.xor_zero]
    have e2 : (BitVec.ofInt 64 (u / 2)).toNat = (u / 2).toNat := by
      obtain ⟨m, hm⟩ : ∃ m : Nat, u / 2 = (m : Int) := ⟨(u / 2).toNat, by omega⟩
      rw [hm, BitVec.ofInt_natCast, BitVec.toNat_ofNat, Nat.mod_eq_of_lt (by omega)]; rfl
    rw [e2, IntKind.wrap_i64]
    omega
/-- A digit that is put over bits that are 0 is added. -/
theorem or_digit (i : Nat) (acc d : Int) (h0 : 0 ≤ acc) (ha : acc < 128 ^ i) (hd : 0 ≤ d) (hb : d * 128 ^ i < 18446744073709551616) (hacc : acc < 18446744073709551616) :
    bits BinOp.or IntKind.u64 acc (d * 128 ^ i) = acc + d * 128 ^ i := by
  obtain ⟨a, rfl⟩ := Int.eq_ofNat_of_zero_le h0
  obtain ⟨c, rfl⟩ := Int.eq_ofNat_of_zero_le hd
  have e : ((128 : Int) ^ i) = ((128 ^ i : Nat) : Int) := by simp
  have e1 : (c : Int) * 128 ^ i = ((c * 128 ^ i : Nat) : Int) := by rw [e]; simp
  rw [e1] at hb ⊢
  rw [e] at ha
  rw [u64_or_nat a (c * 128 ^ i) (by omega) (by omega)]
  have e2 : (128 : Nat) ^ i = 2 ^ (7 * i) := by rw [Nat.pow_mul]
  have := nat_join (7 * i) (c * 128 ^ i) a (by rw [e2]; exact Nat.mul_mod_left _ _) (by rw [← e2]; omega)
  rw [Nat.or_comm, this]
  omega
theorem or_step (k : Nat) (acc x : Int) (hk : k < 9) (h0 : 0 ≤ acc) (ha : acc < 128 ^ k) : bits BinOp.or IntKind.u64 acc (IntKind.u64.wrap (x % 128 * 2 ^ (7 * k))) = acc + x % 128 * 128 ^ k := by
  have e : (2 : Int) ^ (7 * k) = 128 ^ k := by rw [Int.pow_mul]; rfl
  have hp : (0 : Int) < 128 ^ k := Int.pow_pos (by omega)
  have hm : (128 : Int) ^ k ≤ 128 ^ 8 := pow_up (by omega)
  have h8 : (128 : Int) ^ 8 = 72057594037927936 := by decide
  have hle : x % 128 * 128 ^ k ≤ 127 * 128 ^ k := Int.mul_le_mul_of_nonneg_right (by omega) (by omega)
  have hge : 0 ≤ x % 128 * 128 ^ k := Int.mul_nonneg (by omega) (by omega)
  rw [e, IntKind.wrap_u64, Int.emod_eq_of_lt hge (by omega)]
  exact or_digit k acc (x % 128) h0 ha (by omega) (by omega) (by omega)
theorem or_step_lt (k : Nat) (acc x : Int) (ha : acc < 128 ^ k) : acc + x % 128 * 128 ^ k < 128 ^ (k + 1) := by
  have hp : (0 : Int) < 128 ^ k := Int.pow_pos (by omega)
  have hle : x % 128 * 128 ^ k ≤ 127 * 128 ^ k := Int.mul_le_mul_of_nonneg_right (by omega) (by omega)
  rw [Int.pow_succ]; omega
theorem or_step_lo (k : Nat) (acc x : Int) (h0 : 0 ≤ acc) : 0 ≤ acc + x % 128 * 128 ^ k := by
  have hp : (0 : Int) < 128 ^ k := Int.pow_pos (by omega)
  have hge : 0 ≤ x % 128 * 128 ^ k := Int.mul_nonneg (by omega) (by omega)
  omega
theorem or_last (acc : Int) (h0 : 0 ≤ acc) (ha : acc < 128 ^ 9) : bits BinOp.or IntKind.u64 acc (1 * 9223372036854775808) = acc + 1 * 128 ^ 9 := by
  have e : (128 : Int) ^ 9 = 9223372036854775808 := by decide
  have := or_digit 9 acc 1 h0 ha (by omega) (by rw [e]; omega) (by rw [e] at ha; omega)
  rwa [e] at this ⊢
end Nm
end Go.Proofs.YtdmgjeipkpbojaaDoor
