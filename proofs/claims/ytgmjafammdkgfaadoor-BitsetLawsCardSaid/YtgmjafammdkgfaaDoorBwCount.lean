/- Package bitset: Count; math/bits' OnesCount64. -/
import Derived.Test.YtgmjafammdkgfaaDoorBwPop
import Derived.Test.YtgmjafammdkgfaaDoorBwBase
namespace Go.Proofs.YtgmjafammdkgfaaDoor
set_option maxRecDepth 20000
open Go.RowKit
namespace Bw
open Bs Bx Bi
theorem and_i64 (a : Nat) (ha : a < 9223372036854775808) : bits .and .i64 (a : Int) 127 = ((a % 128 : Nat) : Int) := by
  have h1 : (BitVec.ofInt 64 (a : Int)).toNat = a := by
    rw [BitVec.ofInt_natCast, BitVec.toNat_ofNat]; exact Nat.mod_eq_of_lt (by omega)
  have h2 : (BitVec.ofInt 64 (127 : Int)).toNat = 127 := by decide
  show IntKind.i64.wrap ((BitVec.ofInt 64 (a : Int) &&& BitVec.ofInt 64 (127 : Int)).toNat : Int) = _
  rw [BitVec.toNat_and, h1, h2, show (127 : Nat) = 2 ^ 7 - 1 by rfl, Nat.and_two_pow_sub_one_eq_mod, IntKind.wrap_i64]
  omega
set_option maxHeartbeats 2000000 in
theorem ones_any (x : Nat) (hx : x < 18446744073709551616) (w : World) :
    Calls Tryd.prog 35 #[.int .u64 (x : Int)] w fun e w' => e = .returned (.int .i64 (pop x : Int)) ∧ w' = w := by
  obtain ⟨x1, x2, x3, x4, x5, x6, h1, l1, h2, l2, l3, h3, h4, l4, h5, l5, h6, l6, hp⟩ := ones_all x hx
  have a1 := bits_and_u64_nat (x / 2) 6148914691236517205 (by omega) (by omega)
  have a2 := bits_and_u64_nat x 6148914691236517205 (by omega) (by omega)
  have a3 := bits_and_u64_nat (x1 / 4) 3689348814741910323 (by omega) (by omega)
  have a4 := bits_and_u64_nat x1 3689348814741910323 (by omega) (by omega)
  have a5 := bits_and_u64_nat (x2 / 16 + x2) 1085102592571150095 (by omega) (by omega)
  have a6 := and_i64 x6 (by omega)
  obtain ⟨p1, hp1⟩ : ∃ p, p = x / 2 &&& 6148914691236517205 := ⟨_, rfl⟩
  obtain ⟨p2, hp2⟩ : ∃ p, p = x &&& 6148914691236517205 := ⟨_, rfl⟩
  obtain ⟨p3, hp3⟩ : ∃ p, p = x1 / 4 &&& 3689348814741910323 := ⟨_, rfl⟩
  obtain ⟨p4, hp4⟩ : ∃ p, p = x1 &&& 3689348814741910323 := ⟨_, rfl⟩
  rw [← hp1, ← hp2] at h1
  rw [← hp3, ← hp4] at h2
  rw [← hp1] at a1
  rw [← hp2] at a2
  rw [← hp3] at a3
  rw [← hp4] at a4
  rw [← h3] at a5
  rw [hp] at a6
  have w1 : IntKind.u64.wrap ((p1 : Int) + (p2 : Int)) = (x1 : Int) := by rw [IntKind.wrap_u64]; omega
  have w2 : IntKind.u64.wrap ((p3 : Int) + (p4 : Int)) = (x2 : Int) := by rw [IntKind.wrap_u64]; omega
  have w3 : IntKind.u64.wrap ((x2 : Int) / 16 + (x2 : Int)) = ((x2 / 16 + x2 : Nat) : Int) := by rw [IntKind.wrap_u64]; omega
  have w4 : IntKind.u64.wrap ((x3 : Int) + (x3 : Int) / 256) = (x4 : Int) := by rw [IntKind.wrap_u64]; omega
  have w5 : IntKind.u64.wrap ((x4 : Int) + (x4 : Int) / 65536) = (x5 : Int) := by rw [IntKind.wrap_u64]; omega
  have w6 : IntKind.u64.wrap ((x5 : Int) + (x5 : Int) / 4294967296) = (x6 : Int) := by rw [IntKind.wrap_u64]; omega
  have w7 : IntKind.i64.wrap (x6 : Int) = (x6 : Int) := by rw [IntKind.wrap_i64]; omega
  obtain ⟨r, hr⟩ : ∃ r, r = pop x := ⟨_, rfl⟩
  rw [← hr] at a6 ⊢
  clear hp1 hp2 hp3 hp4 h1 h2 h3 h4 h5 h6 l1 l2 l3 l4 l5 l6 hp hr
  simp only [Int.natCast_ediv, Int.natCast_add, Int.cast_ofNat_Int] at a1 a2 a3 a4 a5 w3
  go_enter Tryd.func35, Tryd.ntmps35
  go_wp2_with fail
  go_ret
  exact ⟨rfl, rfl⟩
theorem sum_next (L : List Nat) (q : Nat) (h : q < L.length) : ((L.take (q + 1)).map pop).sum = ((L.take q).map pop).sum + pop (L.getD q 0) := by
  rw [List.take_succ_eq_append_getElem h, List.map_append, List.sum_append]
  simp [List.getD, h]
set_option maxHeartbeats 4000000 in
theorem count_any (A : Option Addr) (n c : Nat) (X : List Int) (w : World) (hX : St w A n c X) :
    Calls Tryd.prog 25 #[.agg #[.slice A n c]] w fun e w' => e = .returned (.int .i64 (X.length : Int)) ∧ Below w.heap.size w w' := by
  obtain ⟨L, hS, hL, tL, rfl⟩ := hX
  have hb0 := (Below.refl w.heap.size w).alloc (Nat.le_refl _) (.cells #[.slice A n c] 27)
  have c0 := box1 w A n c
  have hcap := hS.cap
  have hmx := hS.max
  unfold maxLen at hmx
  have hn : n = L.length := by rw [hS.len, nat_len]
  have hn1 : n ≤ 1024 := by rw [hn]; exact hL.1
  have HS := Lib.hid (hS.below hb0)
  have Hn := Lib.hid hn
  have HL := Lib.hid hL
  have Hb := Lib.hid hb0
  have Ones := Lib.hid fun x hx w => ones_any x hx w
  obtain ⟨T, hT⟩ : ∃ T : Nat → Nat, T = fun q => ((L.take q).map pop).sum := ⟨_, rfl⟩
  have HT1 := Lib.hid (show ∀ q, q < n → T (q + 1) = T q + pop (L.getD q 0) from fun q hq => by rw [hT]; exact sum_next L q (by omega))
  have HT2 := Lib.hid (show ∀ q, q ≤ n → T q ≤ 65536 from fun q hq => by rw [hT]; have := sum_le (L.take q); simp only [List.length_take] at this; show ((L.take q).map pop).sum ≤ 65536; omega)
  have HT3 := Lib.hid (show T n = (lstW L).length by rw [hT, lstW_len, hn]; show ((L.take L.length).map pop).sum = _; rw [List.take_length])
  have HT0 := Lib.hid (show T 0 = 0 by rw [hT]; rfl)
  rw [← HT3.out]
  clear hS hn hL tL hT hb0
  go_enter Tryd.func25, Tryd.ntmps25
  go_wp2_with fail
  go_loopw [3, 5, 9] (fun s u j wr => ∃ q : Nat, j = .int .i64 q ∧ q ≤ n ∧ s = .int .i64 (T q : Int) ∧ wr = w.alloc (.cells #[.slice A n c] 27)) (fun _ _ j _ => n - (intOf j).toNat)
  case atStart => exact ⟨0, rfl, Nat.zero_le _, by rw [HT0.out]; rfl, rfl⟩
  case round =>
    obtain ⟨q, rfl, hk, rfl, rfl⟩ := hrel
    by_cases hlt : q < n
    · have hkI : (q : Int) < n := by omega
      have hq0 : (0 : Int) ≤ (q : Int) := by omega
      obtain ⟨b1, o1, hA1, hb1, hc1⟩ := HS.out.rd q (by rw [nat_len, ← Hn.out]; omega)
      subst hA1
      rw [nat_getD] at hc1
      have C := Lib.hid (Ones.out (L.getD q 0) (HL.out.2 q))
      have h1 := HT1.out q hlt
      have h2 := HT2.out q hk
      have h3 := HT2.out (q + 1) (by omega)
      obtain ⟨x, hx⟩ : ∃ x, x = L.getD q 0 := ⟨_, rfl⟩
      rw [← hx] at hc1 C h1
      obtain ⟨p, hp⟩ : ∃ p, p = pop x := ⟨_, rfl⟩
      rw [← hp] at C h1
      have e1 : IntKind.i64.wrap ((T q : Int) + (p : Int)) = (T (q + 1) : Int) := by rw [IntKind.wrap_i64]; omega
      have e2 : (T q : Int) + (p : Int) = (T (q + 1) : Int) := by omega
      obtain ⟨y, hy⟩ : ∃ y, y = T (q + 1) := ⟨_, rfl⟩
      rw [← hy] at e1 e2
      have hy1 : y ≤ 65536 := by omega
      have Hy := Lib.hid hy
      clear hx hp h1 h2 h3 hy
      go_wp2_with fail
      refine (C.out _).mono ?_
      rintro e w2 ⟨rfl, rfl⟩
      go_wp2_with fail
      go_roundw
      case rel => exact ⟨q + 1, by go_num, by omega, by rw [← Hy.out], trivial⟩
      case measure => simp [intOf]; omega
    · have hkI : ¬ (q : Int) < n := by omega
      obtain rfl : q = n := by omega
      go_wp2_with fail
      go_ret
      exact ⟨rfl, Hb.out⟩
end Bw
end Go.Proofs.YtgmjafammdkgfaaDoor
