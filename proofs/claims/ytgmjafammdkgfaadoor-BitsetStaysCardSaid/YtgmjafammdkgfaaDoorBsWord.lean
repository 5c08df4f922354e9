/- A set of numbers as a row of words of 64 bits, in plain words. No program, no memory. -/
import Derived.Test.YtgmjafammdkgfaaDoorBsMath
namespace Go.Proofs.YtgmjafammdkgfaaDoor
set_option maxRecDepth 20000
namespace Bs
/-- Is the number there? -/
def bitAt (L : List Nat) (i : Nat) : Bool := (L.getD (i / 64) 0).testBit (i % 64)
/-- All that are there. -/
def lstW (L : List Nat) : List Int := ((List.range (64 * L.length)).filter (bitAt L)).map fun (k : Nat) => (k : Int)
theorem bitAt_out {L : List Nat} {i : Nat} (h : 64 * L.length ≤ i) : bitAt L i = false := by
  unfold bitAt
  rw [List.getD_eq_getElem?_getD, List.getElem?_eq_none (by omega)]
  simp
theorem mem_lstW (L : List Nat) (x : Int) : x ∈ lstW L ↔ 0 ≤ x ∧ bitAt L x.toNat = true := by
  unfold lstW
  rw [List.mem_map]
  constructor
  · rintro ⟨k, hk, rfl⟩
    rw [List.mem_filter] at hk
    exact ⟨by omega, by simpa using hk.2⟩
  · rintro ⟨h0, h1⟩
    refine ⟨x.toNat, ?_, by omega⟩
    rw [List.mem_filter, List.mem_range]
    refine ⟨?_, h1⟩
    by_cases q : x.toNat < 64 * L.length
    · exact q
    · rw [bitAt_out (by omega)] at h1
      cases h1
theorem lstW_ok {L : List Nat} (h : L.length ≤ 1024) : Ok (lstW L) := by
  refine ⟨?_, fun x hx => ?_⟩
  · unfold lstW
    rw [List.pairwise_map]
    exact List.Pairwise.imp (fun {a b} q => by omega) (List.Pairwise.filter _ List.pairwise_lt_range)
  · obtain ⟨h0, h1⟩ := (mem_lstW L x).1 hx
    have : x.toNat < 64 * L.length := by
      by_cases q : x.toNat < 64 * L.length
      · exact q
      · rw [bitAt_out (by omega)] at h1
        cases h1
    exact ⟨h0, by omega⟩
theorem lstW_nil : lstW [] = [] := rfl
section
variable {L M N : List Nat}
theorem lst_with {i : Nat} (hL : L.length ≤ 1024) (hM : M.length ≤ 1024) (hi : i < 65536) (h : ∀ n, bitAt M n = (bitAt L n || decide (n = i))) : lstW M = withL (lstW L) (i : Int) :=
  ok_ext (lstW_ok hM) (with_ok (lstW_ok hL) _) fun x => by
    rw [mem_with, mem_lstW, mem_lstW, h, Bool.or_eq_true, decide_eq_true_eq]
    constructor
    · rintro ⟨h0, q | q⟩
      · exact .inl ⟨h0, q⟩
      · exact .inr ⟨by omega, by omega, by omega⟩
    · rintro (⟨h0, q⟩ | ⟨q, _⟩)
      · exact ⟨h0, .inl q⟩
      · exact ⟨by omega, .inr (by omega)⟩
theorem lst_without {i : Nat} (hL : L.length ≤ 1024) (hM : M.length ≤ 1024) (h : ∀ n, bitAt M n = (bitAt L n && decide (n ≠ i))) : lstW M = withoutL (lstW L) (i : Int) :=
  ok_ext (lstW_ok hM) (without_ok (lstW_ok hL) _) fun x => by
    rw [mem_without, mem_lstW, mem_lstW, h, Bool.and_eq_true, decide_eq_true_eq]
    exact ⟨fun ⟨h0, q, p⟩ => ⟨⟨h0, q⟩, fun e => p (by omega)⟩, fun ⟨⟨h0, q⟩, p⟩ => ⟨h0, q, fun e => p (by omega)⟩⟩
theorem lst_and (hL : L.length ≤ 1024) (hM : M.length ≤ 1024) (h : ∀ n, bitAt M n = (bitAt L n && bitAt N n)) : lstW M = andL (lstW L) (lstW N) :=
  ok_ext (lstW_ok hM) (and_ok (lstW_ok hL) _) fun x => by
    rw [mem_and, mem_lstW, mem_lstW, mem_lstW, h, Bool.and_eq_true]
    exact ⟨fun ⟨h0, q, p⟩ => ⟨⟨h0, q⟩, h0, p⟩, fun ⟨⟨h0, q⟩, _, p⟩ => ⟨h0, q, p⟩⟩
theorem lst_or (hL : L.length ≤ 1024) (hN : N.length ≤ 1024) (hM : M.length ≤ 1024) (h : ∀ n, bitAt M n = (bitAt L n || bitAt N n)) : lstW M = orL (lstW L) (lstW N) :=
  ok_ext (lstW_ok hM) (or_ok (lstW_ok hL) _) fun x => by
    rw [mem_or (lstW_ok hN), mem_lstW, mem_lstW, mem_lstW, h, Bool.or_eq_true]
    exact ⟨fun ⟨h0, q⟩ => q.elim (fun p => .inl ⟨h0, p⟩) fun p => .inr ⟨h0, p⟩, fun q => q.elim (fun p => ⟨p.1, .inl p.2⟩) fun p => ⟨p.1, .inr p.2⟩⟩
theorem lst_upto {k : Int} (hM : M.length ≤ 1024) (h : ∀ n, bitAt M n = decide (n < cut k)) : lstW M = uptoL k :=
  ok_ext (lstW_ok hM) (upto_ok k) fun x => by
    rw [mem_upto, mem_lstW, h, decide_eq_true_eq]
    unfold cut
    omega
theorem lst_not {k : Int} (hM : M.length ≤ 1024) (h : ∀ n, bitAt M n = (decide (n < cut k) && !bitAt L n)) : lstW M = notL (lstW L) k :=
  ok_ext (lstW_ok hM) (not_ok _ k) fun x => by
    rw [mem_not, mem_lstW, mem_lstW, h, Bool.and_eq_true, decide_eq_true_eq]
    unfold cut
    constructor
    · rintro ⟨h0, q, p⟩
      exact ⟨by omega, fun r => by rw [r.2] at p; cases p⟩
    · rintro ⟨q, p⟩
      refine ⟨q.1, by omega, ?_⟩
      cases e : bitAt L x.toNat
      · rfl
      · exact absurd ⟨q.1, e⟩ p
/-- A word turned. -/
theorem getD_set (L : List Nat) (k n v : Nat) (hk : k < L.length) : (L.set k v).getD n 0 = if n = k then v else L.getD n 0 := by
  rw [List.getD_eq_getElem?_getD, List.getElem?_set, List.getD_eq_getElem?_getD]
  by_cases e : k = n
  · rw [if_pos e, if_pos e.symm, if_pos hk]
    rfl
  · rw [if_neg e, if_neg fun q => e q.symm]
theorem bit_or {k j : Nat} (hk : k < L.length) (hj : j < 64) (n : Nat) : bitAt (L.set k (L.getD k 0 ||| 2 ^ j)) n = (bitAt L n || decide (n = 64 * k + j)) := by
  unfold bitAt
  rw [getD_set L k _ _ hk]
  by_cases e : n / 64 = k
  · rw [if_pos e, Nat.testBit_or, Nat.testBit_two_pow, e]
    congr 1
    exact decide_eq_decide.2 (by omega)
  · rw [if_neg e, decide_eq_false (by omega), Bool.or_false]
theorem bit_not {k j : Nat} (hk : k < L.length) (hj : j < 64) (n : Nat) : bitAt (L.set k (L.getD k 0 &&& (18446744073709551615 - 2 ^ j))) n = (bitAt L n && decide (n ≠ 64 * k + j)) := by
  unfold bitAt
  rw [getD_set L k _ _ hk]
  by_cases e : n / 64 = k
  · have hp : 2 ^ j < 2 ^ 64 := Nat.pow_lt_pow_right (by omega) hj
    rw [if_pos e, Nat.testBit_and, show 18446744073709551615 - 2 ^ j = 2 ^ 64 - (2 ^ j + 1) by omega, Nat.testBit_two_pow_sub_succ hp, Nat.testBit_two_pow, e, decide_eq_true (show n % 64 < 64 by omega), Bool.true_and]
    congr 1
    by_cases q : j = n % 64
    · rw [decide_eq_true q, decide_eq_false (by omega)]
      rfl
    · rw [decide_eq_false q, decide_eq_true (by omega)]
      rfl
  · rw [if_neg e, decide_eq_true (by omega), Bool.and_true]
theorem bit_and2 (h : ∀ k, M.getD k 0 = L.getD k 0 &&& N.getD k 0) (n : Nat) : bitAt M n = (bitAt L n && bitAt N n) := by
  unfold bitAt
  rw [h, Nat.testBit_and]
theorem bit_or2 (h : ∀ k, M.getD k 0 = L.getD k 0 ||| N.getD k 0) (n : Nat) : bitAt M n = (bitAt L n || bitAt N n) := by
  unfold bitAt
  rw [h, Nat.testBit_or]
theorem bit_not2 (h : ∀ k, M.getD k 0 = L.getD k 0 &&& (18446744073709551615 - N.getD k 0)) (hN : ∀ k, N.getD k 0 < 18446744073709551616) (n : Nat) : bitAt M n = (bitAt L n && !bitAt N n) := by
  unfold bitAt
  have := hN (n / 64)
  rw [h, Nat.testBit_and, show 18446744073709551615 - N.getD (n / 64) 0 = 2 ^ 64 - (N.getD (n / 64) 0 + 1) by omega, Nat.testBit_two_pow_sub_succ (by omega), decide_eq_true (show n % 64 < 64 by omega), Bool.true_and]
/-- The same numbers: the same words. -/
theorem lst_same (hL : L.length ≤ 1024) (hM : M.length ≤ 1024) (h1 : ∀ k, L.getD k 0 < 18446744073709551616) (h2 : ∀ k, M.getD k 0 < 18446744073709551616) : lstW L = lstW M ↔ ∀ k, L.getD k 0 = M.getD k 0 := by
  constructor
  · intro e k
    refine Nat.eq_of_testBit_eq fun j => ?_
    by_cases hj : j < 64
    · have ha : bitAt L (64 * k + j) = (L.getD k 0).testBit j := by unfold bitAt; rw [show (64 * k + j) / 64 = k by omega, show (64 * k + j) % 64 = j by omega]
      have hb : bitAt M (64 * k + j) = (M.getD k 0).testBit j := by unfold bitAt; rw [show (64 * k + j) / 64 = k by omega, show (64 * k + j) % 64 = j by omega]
      rw [← ha, ← hb, Bool.eq_iff_iff]
      have ml := mem_lstW L ((64 * k + j : Nat) : Int)
      have mm := mem_lstW M ((64 * k + j : Nat) : Int)
      rw [Int.toNat_natCast] at ml mm
      rw [e] at ml
      exact ⟨fun q => (mm.1 (ml.2 ⟨by omega, q⟩)).2, fun q => (ml.1 (mm.2 ⟨by omega, q⟩)).2⟩
    · have hp : 2 ^ 64 ≤ 2 ^ j := Nat.pow_le_pow_right (by omega) (by omega)
      rw [Nat.testBit_lt_two_pow (Nat.lt_of_lt_of_le (h1 k) hp), Nat.testBit_lt_two_pow (Nat.lt_of_lt_of_le (h2 k) hp)]
  · intro e
    refine ok_ext (lstW_ok hL) (lstW_ok hM) fun x => ?_
    rw [mem_lstW, mem_lstW]
    unfold bitAt
    rw [e]
/-- How many bits a word has. -/
def pop (w : Nat) : Nat := (List.range 64).countP fun j => w.testBit j
theorem lstW_len (L : List Nat) : (lstW L).length = (L.map pop).sum := by
  have key : ∀ n, n ≤ L.length → ((List.range (64 * n)).countP (bitAt L)) = ((L.take n).map pop).sum := by
    intro n
    induction n with
    | zero => intro _; rfl
    | succ n ih =>
      intro hn
      have e : List.range (64 * (n + 1)) = List.range (64 * n) ++ (List.range 64).map (64 * n + ·) := by rw [Nat.mul_succ, List.range_add]
      rw [e, List.countP_append, ih (by omega), List.take_add_one, List.getElem?_eq_getElem (by omega), List.map_append, List.sum_append, List.countP_map]
      congr 1
      simp only [Option.toList_some, List.map_cons, List.map_nil, List.sum_cons, List.sum_nil, Nat.add_zero]
      unfold pop
      refine List.countP_congr fun j hj => ?_
      rw [List.mem_range] at hj
      simp only [Function.comp_apply]
      unfold bitAt
      rw [show (64 * n + j) / 64 = n by omega, show (64 * n + j) % 64 = j by omega, List.getD_eq_getElem?_getD, List.getElem?_eq_getElem (by omega)]
      rfl
  have := key L.length (Nat.le_refl _)
  rw [List.take_length] at this
  rw [← this]
  unfold lstW
  rw [List.length_map, List.countP_eq_length_filter]
end
end Bs
end Go.Proofs.YtgmjafammdkgfaaDoor
