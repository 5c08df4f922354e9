/- The numbers of a set word by word, the lowest bit first. No program. -/
import Derived.Lib.TrailingZeros
import Derived.Test.YtgmjafammdkgfaaDoorBwPop
namespace Go.Proofs.YtgmjafammdkgfaaDoor
set_option maxRecDepth 20000
namespace Bw
open Bs
/-- The numbers of the word x at place a. -/
def wl (a x : Nat) : List Int := ((List.range 64).filter fun j => x.testBit j).map fun (j : Nat) => (a : Int) * 64 + (j : Int)
theorem wl_zero (a : Nat) : wl a 0 = [] := by
  unfold wl
  rw [List.filter_eq_nil_iff.2 (fun j _ => by rw [Nat.zero_testBit]; simp)]
  rfl
theorem low (x : Nat) (h0 : x ≠ 0) (hx : x < 18446744073709551616) : ∃ k m, k = Lib.ctz 64 x ∧ k < 64 ∧ x = 2 ^ (k + 1) * m + 2 ^ k ∧ x &&& (x - 1) = 2 ^ (k + 1) * m := by
  obtain ⟨m, hm, hk⟩ := Lib.ctzFrom_spec 64 x (by omega) hx
  have e : Lib.ctz 64 x = Lib.ctzFrom 64 x := by simp [Lib.ctz, h0]
  refine ⟨_, m, e.symm, hk, ?_, ?_⟩
  · conv => lhs; rw [hm]
    rw [Nat.pow_succ, Nat.mul_add, Nat.mul_one, ← Nat.mul_assoc]
  · generalize Lib.ctzFrom 64 x = k at *
    have hp := Nat.two_pow_pos k
    have e1 : x = 2 ^ k + 2 ^ (k + 1) * m := by
      rw [hm, Nat.pow_succ, Nat.mul_add, Nat.mul_one, ← Nat.mul_assoc, Nat.add_comm]
    have e2 : x - 1 = (2 ^ k - 1) + 2 ^ (k + 1) * m := by omega
    have hs := and_split (k + 1) (2 ^ k) m (2 ^ k - 1) m (Nat.pow_lt_pow_right (by omega) (by omega)) (Nat.lt_of_le_of_lt (Nat.sub_le _ _) (Nat.pow_lt_pow_right (by omega) (by omega)))
    rw [e2, e1, hs, Nat.and_two_pow_sub_one_eq_mod, Nat.mod_self, Nat.and_self, Nat.zero_add]
theorem wl_next (a x : Nat) (h0 : x ≠ 0) (hx : x < 18446744073709551616) : wl a x = ((a : Int) * 64 + (Lib.ctz 64 x : Int)) :: wl a (x &&& (x - 1)) := by
  obtain ⟨k, m, hk, hk64, e1, e2⟩ := low x h0 hx
  rw [← hk, e2]
  have t1 : ∀ j, x.testBit j = if j < k + 1 then decide (k = j) else m.testBit (j - (k + 1)) := fun j => by
    rw [e1, Nat.testBit_two_pow_mul_add _ (Nat.pow_lt_pow_right (by omega) (by omega)), Nat.testBit_two_pow]
  have t2 : ∀ j, (2 ^ (k + 1) * m).testBit j = if j < k + 1 then false else m.testBit (j - (k + 1)) := fun j => by
    have := Nat.testBit_two_pow_mul_add m (Nat.two_pow_pos (k + 1)) j
    rw [Nat.add_zero] at this
    rw [this, Nat.zero_testBit]
  have er : List.range 64 = List.range k ++ k :: (List.range (63 - k)).map (k + 1 + ·) := by
    have := List.range_add (n := k) (m := 64 - k)
    rw [show k + (64 - k) = 64 by omega] at this
    rw [this]
    congr 1
    rw [show 64 - k = (63 - k) + 1 by omega, List.range_succ_eq_map, List.map_cons, List.map_map]
    congr 1
    exact List.map_congr_left fun j _ => by simp only [Function.comp]; omega
  have tk : x.testBit k = true := by rw [t1, if_pos (Nat.lt_succ_self k), decide_eq_true rfl]
  have uk : (2 ^ (k + 1) * m).testBit k = false := by rw [t2, if_pos (Nat.lt_succ_self k)]
  have f1 : (List.range k).filter (fun j => x.testBit j) = [] := List.filter_eq_nil_iff.2 fun j hj => by
    rw [List.mem_range] at hj
    rw [t1 j, if_pos (by omega), decide_eq_false (by omega)]
    simp
  have f2 : (List.range k).filter (fun j => (2 ^ (k + 1) * m).testBit j) = [] := List.filter_eq_nil_iff.2 fun j hj => by
    rw [List.mem_range] at hj
    rw [t2 j, if_pos (by omega)]
    simp
  have f3 : ((List.range (63 - k)).map (k + 1 + ·)).filter (fun j => x.testBit j) = ((List.range (63 - k)).map (k + 1 + ·)).filter (fun j => (2 ^ (k + 1) * m).testBit j) := List.filter_congr fun j hj => by
    obtain ⟨i, _, rfl⟩ := List.mem_map.1 hj
    rw [t1, t2, if_neg (by omega), if_neg (by omega)]
  unfold wl
  rw [er, List.filter_append, List.filter_append, List.filter_cons, List.filter_cons, tk, uk, f1, f2, f3]
  rfl
theorem low_lt (x : Nat) (h0 : x ≠ 0) : x &&& (x - 1) < x := Nat.lt_of_le_of_lt Nat.and_le_right (by omega)
theorem take_bit (L : List Nat) (a n : Nat) (h : n < 64 * a) : bitAt (L.take a) n = bitAt L n := by
  unfold bitAt
  rw [take_getD, if_pos (by omega)]
theorem lst_next (L : List Nat) (a : Nat) (h : a < L.length) : lstW (L.take (a + 1)) = lstW (L.take a) ++ wl a (L.getD a 0) := by
  have l1 : (L.take (a + 1)).length = a + 1 := by simp; omega
  have l2 : (L.take a).length = a := by simp; omega
  unfold lstW wl
  rw [l1, l2, Nat.mul_succ, List.range_add, List.filter_append, List.map_append]
  congr 1
  · congr 1
    refine List.filter_congr fun j hj => ?_
    rw [List.mem_range] at hj
    rw [take_bit _ _ _ (by omega), take_bit _ _ _ hj]
  · rw [List.filter_map, List.map_map]
    rw [List.filter_congr (q := fun j => (L.getD a 0).testBit j) (fun j hj => by
      rw [List.mem_range] at hj
      simp only [Function.comp]
      rw [take_bit _ _ _ (by omega)]
      unfold bitAt
      rw [show (64 * a + j) / 64 = a by omega, show (64 * a + j) % 64 = j by omega])]
    exact List.map_congr_left fun j _ => by simp only [Function.comp]; omega
theorem lst_pre (L : List Nat) (a : Nat) (h : a ≤ L.length) : lstW (L.take a) <+: lstW L := by
  have l2 : (L.take a).length = a := by simp; omega
  have key := List.range_add (n := 64 * a) (m := 64 * L.length - 64 * a)
  rw [show 64 * a + (64 * L.length - 64 * a) = 64 * L.length by omega] at key
  unfold lstW
  rw [l2, key, List.filter_append, List.map_append]
  rw [List.filter_congr (p := bitAt (L.take a)) (q := bitAt L) (fun j hj => by
    rw [List.mem_range] at hj
    rw [take_bit _ _ _ hj])]
  exact List.prefix_append _ _
theorem lst_le (L : List Nat) : (lstW L).length ≤ 64 * L.length := by
  rw [lstW_len]
  exact sum_le L
end Bw
end Go.Proofs.YtgmjafammdkgfaaDoor
