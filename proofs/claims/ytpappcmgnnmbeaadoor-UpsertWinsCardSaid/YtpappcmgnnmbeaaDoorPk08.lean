/- A set of numbers as a row of words of 64 bits, in plain words. No program, no memory. Sets as rows of words of 64 bits: what the calls do to the words. No program, no memory. A row of numbers of the call's own; append of one number onto it. What the reference of layer 9 does: may, Has, Upto, Without, And, Not. What the reference of layer 9 does: Without, And, Not. -/
import Derived.WalkKit
import Derived.WalkSpells
import Derived.Lib.Hide
import Derived.IntWalk
import Derived.Maps.AppendAt
import Derived.Test.YtpappcmgnnmbeaaDoorPk07
import Derived.Test.YtpappcmgnnmbeaaDoorProg
import Derived.Test.YtpappcmgnnmbeaaDoorPk01
namespace Go.Proofs.YtpappcmgnnmbeaaDoor
set_option maxRecDepth 20000
namespace Bs
/-- Is the number there? -/
def bitAt (L : List Nat) (i : Nat) : Bool := (L.getD (i / 64) 0).testBit (i % 64)
/-- All that are there. -/
def lstW (L : List Nat) : List Int := ((List.range (64 * L.length)).filter (bitAt L)).map fun (k : Nat) => (k : Int)
theorem bitAt_out {L : List Nat} {i : Nat} (h : 64 * L.length ≤ i) : bitAt L i = false := by
  unfold bitAt
  rw [List.getD_eq_getElem?_getD, List.getElem?_eq_none (by omega)]
  simp
theorem mem_lstW (L : List Nat) (x : Int) : x ∈ lstW L ↔ 0 ≤ x ∧ bitAt L x.toNat = true := by
  unfold lstW
  rw [List.mem_map]
  constructor
  · rintro ⟨k, hk, rfl⟩
    rw [List.mem_filter] at hk
    exact ⟨by omega, by simpa using hk.2⟩
  · rintro ⟨h0, h1⟩
    refine ⟨x.toNat, ?_, by omega⟩
    rw [List.mem_filter, List.mem_range]
    refine ⟨?_, h1⟩
    by_cases q : x.toNat < 64 * L.length
    · exact q
    · rw [bitAt_out (by omega)] at h1
      cases h1
theorem lstW_ok {L : List Nat} (h : L.length ≤ 1024) : Ok (lstW L) := by
  refine ⟨?_, fun x hx => ?_⟩
  · unfold lstW
    rw [List.pairwise_map]
    exact List.Pairwise.imp (fun {a b} q => by omega) (List.Pairwise.filter _ List.pairwise_lt_range)
  · obtain ⟨h0, h1⟩ := (mem_lstW L x).1 hx
    have : x.toNat < 64 * L.length := by
      by_cases q : x.toNat < 64 * L.length
      · exact q
      · rw [bitAt_out (by omega)] at h1
        cases h1
    exact ⟨h0, by omega⟩
theorem lstW_nil : lstW [] = [] := rfl
section
variable {L M N : List Nat}
theorem lst_with {i : Nat} (hL : L.length ≤ 1024) (hM : M.length ≤ 1024) (hi : i < 65536) (h : ∀ n, bitAt M n = (bitAt L n || decide (n = i))) : lstW M = withL (lstW L) (i : Int) :=
  ok_ext (lstW_ok hM) (with_ok (lstW_ok hL) _) fun x => by
    rw [mem_with, mem_lstW, mem_lstW, h, Bool.or_eq_true, decide_eq_true_eq]
    constructor
    · rintro ⟨h0, q | q⟩
      · exact .inl ⟨h0, q⟩
      · exact .inr ⟨by omega, by omega, by omega⟩
    · rintro (⟨h0, q⟩ | ⟨q, _⟩)
      · exact ⟨h0, .inl q⟩
      · exact ⟨by omega, .inr (by omega)⟩
theorem lst_without {i : Nat} (hL : L.length ≤ 1024) (hM : M.length ≤ 1024) (h : ∀ n, bitAt M n = (bitAt L n && decide (n ≠ i))) : lstW M = withoutL (lstW L) (i : Int) :=
  ok_ext (lstW_ok hM) (without_ok (lstW_ok hL) _) fun x => by
    rw [mem_without, mem_lstW, mem_lstW, h, Bool.and_eq_true, decide_eq_true_eq]
    exact ⟨fun ⟨h0, q, p⟩ => ⟨⟨h0, q⟩, fun e => p (by omega)⟩, fun ⟨⟨h0, q⟩, p⟩ => ⟨h0, q, fun e => p (by omega)⟩⟩
theorem lst_and (hL : L.length ≤ 1024) (hM : M.length ≤ 1024) (h : ∀ n, bitAt M n = (bitAt L n && bitAt N n)) : lstW M = andL (lstW L) (lstW N) :=
  ok_ext (lstW_ok hM) (and_ok (lstW_ok hL) _) fun x => by
    rw [mem_and, mem_lstW, mem_lstW, mem_lstW, h, Bool.and_eq_true]
    exact ⟨fun ⟨h0, q, p⟩ => ⟨⟨h0, q⟩, h0, p⟩, fun ⟨⟨h0, q⟩, _, p⟩ => ⟨h0, q, p⟩⟩
theorem lst_or (hL : L.length ≤ 1024) (hN : N.length ≤ 1024) (hM : M.length ≤ 1024) (h : ∀ n, bitAt M n = (bitAt L n || bitAt N n)) : lstW M = orL (lstW L) (lstW N) :=
  ok_ext (lstW_ok hM) (or_ok (lstW_ok hL) _) fun x => by
    rw [mem_or (lstW_ok hN), mem_lstW, mem_lstW, mem_lstW, h, Bool.or_eq_true]
    exact ⟨fun ⟨h0, q⟩ => q.elim (fun p => .inl ⟨h0, p⟩) fun p => .inr ⟨h0, p⟩, fun q => q.elim (fun p => ⟨p.1, .inl p.2⟩) fun p => ⟨p.1, .inr p.2⟩⟩
theorem lst_upto {k : Int} (hM : M.length ≤ 1024) (h : ∀ n, bitAt M n = decide (n < cut k)) : lstW M = uptoL k :=
  ok_ext (lstW_ok hM) (upto_ok k) fun x => by
    rw [mem_upto, mem_lstW, h, decide_eq_true_eq]
    unfold cut
    omega
theorem lst_not {k : Int} (hM : M.length ≤ 1024) (h : ∀ n, bitAt M n = (decide (n < cut k) && !bitAt L n)) : lstW M = notL (lstW L) k :=
  ok_ext (lstW_ok hM) (not_ok _ k) fun x => by
    rw [mem_not, mem_lstW, mem_lstW, h, Bool.and_eq_true, decide_eq_true_eq]
    unfold cut
    constructor
    · rintro ⟨h0, q, p⟩
      exact ⟨by omega, fun r => by rw [r.2] at p; cases p⟩
    · rintro ⟨q, p⟩
      refine ⟨q.1, by omega, ?_⟩
      cases e : bitAt L x.toNat
      · rfl
      · exact absurd ⟨q.1, e⟩ p
/-- A word turned. -/
theorem getD_set (L : List Nat) (k n v : Nat) (hk : k < L.length) : (L.set k v).getD n 0 = if n = k then v else L.getD n 0 := by
  rw [List.getD_eq_getElem?_getD, List.getElem?_set, List.getD_eq_getElem?_getD]
  by_cases e : k = n
  · rw [if_pos e, if_pos e.symm, if_pos hk]
    rfl
  · rw [if_neg e, if_neg fun q => e q.symm]
theorem bit_or {k j : Nat} (hk : k < L.length) (hj : j < 64) (n : Nat) : bitAt (L.set k (L.getD k 0 ||| 2 ^ j)) n = (bitAt L n || decide (n = 64 * k + j)) := by
  unfold bitAt
  rw [getD_set L k _ _ hk]
  by_cases e : n / 64 = k
  · rw [if_pos e, Nat.testBit_or, Nat.testBit_two_pow, e]
    congr 1
    exact decide_eq_decide.2 (by omega)
  · rw [if_neg e, decide_eq_false (by omega), Bool.or_false]
theorem bit_not {k j : Nat} (hk : k < L.length) (hj : j < 64) (n : Nat) : bitAt (L.set k (L.getD k 0 &&& (18446744073709551615 - 2 ^ j))) n = (bitAt L n && decide (n ≠ 64 * k + j)) := by
  unfold bitAt
  rw [getD_set L k _ _ hk]
  by_cases e : n / 64 = k
  · have hp : 2 ^ j < 2 ^ 64 := Nat.pow_lt_pow_right (by omega) hj
    rw [if_pos e, Nat.testBit_and, show 18446744073709551615 - 2 ^ j = 2 ^ 64 - (2 ^ j + 1) by omega, Nat.testBit_two_pow_sub_succ hp, Nat.testBit_two_pow, e, decide_eq_true (show n % 64 < 64 by omega), Bool.true_and]
    congr 1
    by_cases q : j = n % 64
    · rw [decide_eq_true q, decide_eq_false (by omega)]
      rfl
    · rw [decide_eq_false q, decide_eq_true (by omega)]
      rfl
  · rw [if_neg e, decide_eq_true (by omega), Bool.and_true]
theorem bit_and2 (h : ∀ k, M.getD k 0 = L.getD k 0 &&& N.getD k 0) (n : Nat) : bitAt M n = (bitAt L n && bitAt N n) := by
  unfold bitAt
  rw [h, Nat.testBit_and]
theorem bit_or2 (h : ∀ k, M.getD k 0 = L.getD k 0 ||| N.getD k 0) (n : Nat) : bitAt M n = (bitAt L n || bitAt N n) := by
  unfold bitAt
  rw [h, Nat.testBit_or]
theorem bit_not2 (h : ∀ k, M.getD k 0 = L.getD k 0 &&& (18446744073709551615 - N.getD k 0)) (hN : ∀ k, N.getD k 0 < 18446744073709551616) (n : Nat) : bitAt M n = (bitAt L n && !bitAt N n) := by
  unfold bitAt
  have := hN (n / 64)
  rw [h, Nat.testBit_and, show 18446744073709551615 - N.getD (n / 64) 0 = 2 ^ 64 - (N.getD (n / 64) 0 + 1) by omega, Nat.testBit_two_pow_sub_succ (by omega), decide_eq_true (show n % 64 < 64 by omega), Bool.true_and]
/-- The same numbers: the same words. -/
theorem lst_same (hL : L.length ≤ 1024) (hM : M.length ≤ 1024) (h1 : ∀ k, L.getD k 0 < 18446744073709551616) (h2 : ∀ k, M.getD k 0 < 18446744073709551616) : lstW L = lstW M ↔ ∀ k, L.getD k 0 = M.getD k 0 := by
  constructor
  · intro e k
    refine Nat.eq_of_testBit_eq fun j => ?_
    by_cases hj : j < 64
    · have ha : bitAt L (64 * k + j) = (L.getD k 0).testBit j := by unfold bitAt; rw [show (64 * k + j) / 64 = k by omega, show (64 * k + j) % 64 = j by omega]
      have hb : bitAt M (64 * k + j) = (M.getD k 0).testBit j := by unfold bitAt; rw [show (64 * k + j) / 64 = k by omega, show (64 * k + j) % 64 = j by omega]
      rw [← ha, ← hb, Bool.eq_iff_iff]
      have ml := mem_lstW L ((64 * k + j : Nat) : Int)
      have mm := mem_lstW M ((64 * k + j : Nat) : Int)
      rw [Int.toNat_natCast] at ml mm
      rw [e] at ml
      exact ⟨fun q => (mm.1 (ml.2 ⟨by omega, q⟩)).2, fun q => (ml.1 (mm.2 ⟨by omega, q⟩)).2⟩
    · have hp : 2 ^ 64 ≤ 2 ^ j := Nat.pow_le_pow_right (by omega) (by omega)
      rw [Nat.testBit_lt_two_pow (Nat.lt_of_lt_of_le (h1 k) hp), Nat.testBit_lt_two_pow (Nat.lt_of_lt_of_le (h2 k) hp)]
  · intro e
    refine ok_ext (lstW_ok hL) (lstW_ok hM) fun x => ?_
    rw [mem_lstW, mem_lstW]
    unfold bitAt
    rw [e]
/-- How many bits a word has. -/
def pop (w : Nat) : Nat := (List.range 64).countP fun j => w.testBit j
theorem lstW_len (L : List Nat) : (lstW L).length = (L.map pop).sum := by
  have key : ∀ n, n ≤ L.length → ((List.range (64 * n)).countP (bitAt L)) = ((L.take n).map pop).sum := by
    intro n
    induction n with
    | zero => intro _; rfl
    | succ n ih =>
      intro hn
      have e : List.range (64 * (n + 1)) = List.range (64 * n) ++ (List.range 64).map (64 * n + ·) := by rw [Nat.mul_succ, List.range_add]
      rw [e, List.countP_append, ih (by omega), List.take_add_one, List.getElem?_eq_getElem (by omega), List.map_append, List.sum_append, List.countP_map]
      congr 1
      simp only [Option.toList_some, List.map_cons, List.map_nil, List.sum_cons, List.sum_nil, Nat.add_zero]
      unfold pop
      refine List.countP_congr fun j hj => ?_
      rw [List.mem_range] at hj
      simp only [Function.comp_apply]
      unfold bitAt
      rw [show (64 * n + j) / 64 = n by omega, show (64 * n + j) % 64 = j by omega, List.getD_eq_getElem?_getD, List.getElem?_eq_getElem (by omega)]
      rfl
  have := key L.length (Nat.le_refl _)
  rw [List.take_length] at this
  rw [← this]
  unfold lstW
  rw [List.length_map, List.countP_eq_length_filter]
end
end Bs
end Go.Proofs.YtpappcmgnnmbeaaDoor
namespace Go.Proofs.YtpappcmgnnmbeaaDoor
set_option maxRecDepth 20000
namespace Bw
open Bs
/-- The words as numbers of the machine's. -/
def nat (L : List Nat) : List Int := L.map fun (k : Nat) => (k : Int)
theorem nat_len (L : List Nat) : (nat L).length = L.length := by simp [nat]
theorem nat_getD (L : List Nat) (k : Nat) : (nat L).getD k 0 = ((L.getD k 0 : Nat) : Int) := by
  unfold nat
  rw [List.getD_eq_getElem?_getD, List.getD_eq_getElem?_getD, List.getElem?_map]
  cases L[k]? <;> rfl
theorem nat_set (L : List Nat) (k v : Nat) : (nat L).set k (v : Int) = nat (L.set k v) := by simp [nat, List.map_set]
theorem nat_take (L : List Nat) (k : Nat) : (nat L).take k = nat (L.take k) := by simp [nat, List.map_take]
theorem nat_app (L M : List Nat) : nat L ++ nat M = nat (L ++ M) := by simp [nat]
theorem nat_rep (n : Nat) : nat (List.replicate n 0) = List.replicate n 0 := by simp [nat]
theorem nat_inj {L M : List Nat} (h : nat L = nat M) : L = M := by
  have := congrArg (List.map Int.toNat) h
  simpa [nat, Function.comp_def] using this
/-- Words of 64 bits, not too many. -/
def Wo (L : List Nat) : Prop := L.length ≤ 1024 ∧ ∀ k, L.getD k 0 < 18446744073709551616
/-- The last one is not 0. -/
def Tr (L : List Nat) : Prop := ∀ n, L.length = n + 1 → L.getD n 0 ≠ 0
theorem wo_nil : Wo [] := ⟨by simp, fun k => by simp⟩
theorem tr_nil : Tr [] := fun n h => by simp at h
theorem getD_out {L : List Nat} {k : Nat} (h : L.length ≤ k) : L.getD k 0 = 0 := by
  rw [List.getD_eq_getElem?_getD, List.getElem?_eq_none h]
  rfl
theorem lstW_ext {L M : List Nat} (hL : L.length ≤ 1024) (hM : M.length ≤ 1024) (e : ∀ k, L.getD k 0 = M.getD k 0) : lstW L = lstW M := by
  refine ok_ext (lstW_ok hL) (lstW_ok hM) fun x => ?_
  rw [mem_lstW, mem_lstW]
  unfold bitAt
  rw [e]
theorem take_getD (L : List Nat) (k j : Nat) : (L.take k).getD j 0 = if j < k then L.getD j 0 else 0 := by
  rw [List.getD_eq_getElem?_getD, List.getElem?_take, List.getD_eq_getElem?_getD]
  split <;> rfl
/-- What is cut off holds nothing. -/
theorem trim {L : List Nat} {k : Nat} (hw : Wo L) (hk : k ≤ L.length) (hz : ∀ j, k ≤ j → j < L.length → L.getD j 0 = 0) (ht : k = 0 ∨ L.getD (k - 1) 0 ≠ 0) : Wo (L.take k) ∧ Tr (L.take k) ∧ lstW (L.take k) = lstW L := by
  have hl : (L.take k).length = k := by simp [hk]
  have hwo : Wo (L.take k) := ⟨by rw [hl]; have := hw.1; omega, fun j => by rw [take_getD]; split; exact hw.2 j; omega⟩
  refine ⟨hwo, fun n hn => ?_, lstW_ext hwo.1 hw.1 fun j => ?_⟩
  · rw [hl] at hn
    rw [take_getD, if_pos (by omega)]
    rcases ht with h | h
    · omega
    · rwa [show n = k - 1 by omega]
  · rw [take_getD]
    split
    · rfl
    · by_cases q : j < L.length
      · exact (hz j (by omega) q).symm
      · exact (getD_out (by omega)).symm
/-- Made longer by zeros. -/
def pad (L : List Nat) (n : Nat) : List Nat := L ++ List.replicate (n - L.length) 0
theorem pad_len (L : List Nat) (n : Nat) : (pad L n).length = max L.length n := by simp [pad]; omega
theorem pad_getD (L : List Nat) (n j : Nat) : (pad L n).getD j 0 = L.getD j 0 := by
  unfold pad
  by_cases q : j < L.length
  · rw [List.getD_eq_getElem?_getD, List.getElem?_append_left q, List.getD_eq_getElem?_getD]
  · rw [getD_out (L := L) (by omega), List.getD_eq_getElem?_getD, List.getElem?_append_right (by omega), List.getElem?_replicate]
    split <;> rfl
theorem pad_wo {L : List Nat} {n : Nat} (h : Wo L) (hn : n ≤ 1024) : Wo (pad L n) := ⟨by rw [pad_len]; have := h.1; omega, fun k => by rw [pad_getD]; exact h.2 k⟩
theorem pad_le {L : List Nat} {n : Nat} (h : n ≤ L.length) : pad L n = L := by simp [pad, Nat.sub_eq_zero_of_le h]
/-- A number taken in. -/
def incL (L : List Nat) (k : Nat) : List Nat := (pad L (k / 64 + 1)).set (k / 64) (L.getD (k / 64) 0 ||| 2 ^ (k % 64))
theorem pow_lt (k : Nat) : 2 ^ (k % 64) < 18446744073709551616 := by
  have := Nat.pow_lt_pow_right (a := 2) (by omega) (show k % 64 < 64 by omega)
  omega
theorem or_lt {a b : Nat} (ha : a < 18446744073709551616) (hb : b < 18446744073709551616) : a ||| b < 18446744073709551616 := Nat.or_lt_two_pow (n := 64) ha hb
theorem and_lt {a : Nat} (ha : a < 18446744073709551616) (b : Nat) : a &&& b < 18446744073709551616 := Nat.lt_of_le_of_lt Nat.and_le_left ha
theorem set_wo {L : List Nat} (h : Wo L) (k v : Nat) (hv : v < 18446744073709551616) : Wo (L.set k v) := by
  refine ⟨by simpa using h.1, fun j => ?_⟩
  by_cases q : k < L.length
  · rw [getD_set L k j v q]
    split
    · exact hv
    · exact h.2 j
  · rw [List.set_eq_of_length_le (by omega)]
    exact h.2 j
theorem inc_wo {L : List Nat} {k : Nat} (h : Wo L) (hk : k < 65536) : Wo (incL L k) := set_wo (pad_wo h (by omega)) _ _ (or_lt (h.2 _) (pow_lt k))
theorem or_ne {a b : Nat} (h : a ≠ 0 ∨ b ≠ 0) : a ||| b ≠ 0 := by
  intro e
  have h1 := Nat.or_eq_zero_iff.1 e
  omega
theorem inc_tr {L : List Nat} {k : Nat} (h : Tr L) : Tr (incL L k) := by
  intro n hn
  have hl : (pad L (k / 64 + 1)).length = n + 1 := by simpa [incL] using hn
  rw [pad_len] at hl
  unfold incL
  rw [getD_set _ _ _ _ (by rw [pad_len]; omega)]
  split
  · exact or_ne (.inr (by have := Nat.two_pow_pos (k % 64); omega))
  · rw [pad_getD]
    exact h n (by omega)
theorem inc_lst {L : List Nat} {k : Nat} (h : Wo L) (hk : k < 65536) : lstW (incL L k) = withL (lstW L) (k : Int) := by
  refine lst_with h.1 (inc_wo h hk).1 hk fun n => ?_
  have e : bitAt (pad L (k / 64 + 1)) n = bitAt L n := by unfold bitAt; rw [pad_getD]
  have := bit_or (L := pad L (k / 64 + 1)) (k := k / 64) (j := k % 64) (by rw [pad_len]; omega) (by omega) n
  rw [pad_getD] at this
  unfold incL
  rw [this, e]
  congr 1
  exact decide_eq_decide.2 (by omega)
/-- The same for any number. -/
def incI (L : List Nat) (i : Int) : List Nat := if 0 ≤ i ∧ i < 65536 then incL L i.toNat else L
theorem incI_in {L : List Nat} {k : Nat} (hk : k < 65536) : incI L (k : Int) = incL L k := by
  unfold incI
  rw [if_pos (by omega), Int.toNat_natCast]
theorem incI_out {L : List Nat} {i : Int} (h : ¬ (0 ≤ i ∧ i < 65536)) : incI L i = L := if_neg h
theorem incI_wo {L : List Nat} (i : Int) (h : Wo L) : Wo (incI L i) := by
  unfold incI
  split
  · exact inc_wo h (by omega)
  · exact h
theorem incI_tr {L : List Nat} (i : Int) (h : Tr L) : Tr (incI L i) := by
  unfold incI
  split
  · exact inc_tr h
  · exact h
theorem incI_lst {L : List Nat} (i : Int) (h : Wo L) : lstW (incI L i) = withL (lstW L) i := by
  by_cases q : 0 ≤ i ∧ i < 65536
  · obtain ⟨k, rfl⟩ := Int.eq_ofNat_of_zero_le q.1
    have e := incI_in (L := L) (k := k) (by omega)
    rw [e]
    exact inc_lst h (by omega)
  · rw [incI_out q]
    unfold withL
    rw [if_neg fun r => q ⟨r.1.1, r.1.2⟩]
theorem fold_wo : ∀ (l : List Int) (L : List Nat), Wo L → Wo (l.foldl incI L)
  | [], _, h => h
  | i :: l, _, h => fold_wo l _ (incI_wo i h)
theorem fold_tr : ∀ (l : List Int) (L : List Nat), Tr L → Tr (l.foldl incI L)
  | [], _, h => h
  | i :: l, _, h => fold_tr l _ (incI_tr i h)
theorem fold_lst : ∀ (l : List Int) (L : List Nat), Wo L → lstW (l.foldl incI L) = l.foldl withL (lstW L)
  | [], _, _ => rfl
  | i :: l, L, h => by
    show lstW (l.foldl incI (incI L i)) = l.foldl withL (withL (lstW L) i)
    rw [fold_lst l _ (incI_wo i h), incI_lst i h]
theorem of_lst (l : List Int) : lstW (l.foldl incI []) = ofL l := by
  rw [fold_lst l [] wo_nil, lstW_nil]
  rfl
/-- Is the number there? -/
theorem mem_bit (L : List Nat) (k : Nat) : ((k : Int) ∈ lstW L) ↔ L.getD (k / 64) 0 &&& 2 ^ (k % 64) ≠ 0 := by
  rw [mem_lstW, Int.toNat_natCast]
  unfold bitAt
  have key : ∀ (a j : Nat), a.testBit j = true ↔ a &&& 2 ^ j ≠ 0 := by
    intro a j
    constructor
    · intro h e
      have h1 : (a &&& 2 ^ j).testBit j = true := by rw [Nat.testBit_and, h, Nat.testBit_two_pow_self]; rfl
      rw [e, Nat.zero_testBit] at h1
      cases h1
    · intro h
      cases q : a.testBit j
      · exfalso
        apply h
        refine Nat.eq_of_testBit_eq fun n => ?_
        rw [Nat.testBit_and, Nat.testBit_two_pow, Nat.zero_testBit]
        by_cases e : j = n
        · rw [← e, q]
          rfl
        · rw [decide_eq_false e, Bool.and_false]
      · rfl
  rw [key]
  exact ⟨fun h => h.2, fun h => ⟨by omega, h⟩⟩
theorem mem_out {L : List Nat} {k : Nat} (h : L.length ≤ k / 64) : (k : Int) ∉ lstW L := by
  rw [mem_bit, getD_out h, Nat.zero_and]
  simp
/-- A number taken out. -/
def excL (L : List Nat) (k : Nat) : List Nat := L.set (k / 64) (L.getD (k / 64) 0 &&& (18446744073709551615 - 2 ^ (k % 64)))
theorem exc_wo {L : List Nat} {k : Nat} (h : Wo L) : Wo (excL L k) := set_wo h _ _ (and_lt (h.2 _) _)
theorem exc_lst {L : List Nat} {k : Nat} (h : Wo L) (hk : k / 64 < L.length) : lstW (excL L k) = withoutL (lstW L) (k : Int) := by
  refine lst_without h.1 (exc_wo h).1 fun n => ?_
  unfold excL
  rw [bit_not hk (by omega) n]
  congr 1
  exact decide_eq_decide.2 (by omega)
theorem without_none {X : List Int} {i : Int} (h : i ∉ X) : withoutL X i = X := by
  unfold withoutL
  rw [List.filter_eq_self]
  intro x hx
  exact decide_eq_true fun e => h (e ▸ hx)
/-- Word by word. -/
def zipL (f : Nat → Nat → Nat) (n : Nat) (L M : List Nat) : List Nat := (List.range n).map fun k => f (L.getD k 0) (M.getD k 0)
theorem zip_len (f : Nat → Nat → Nat) (n : Nat) (L M : List Nat) : (zipL f n L M).length = n := by simp [zipL]
theorem zip_getD (f : Nat → Nat → Nat) (n : Nat) (L M : List Nat) (k : Nat) (hk : k < n) : (zipL f n L M).getD k 0 = f (L.getD k 0) (M.getD k 0) := by
  unfold zipL
  rw [List.getD_eq_getElem?_getD, List.getElem?_map, List.getElem?_range hk]
  rfl
theorem zip_wo {f : Nat → Nat → Nat} {n : Nat} {L M : List Nat} (hn : n ≤ 1024) (h : ∀ k, f (L.getD k 0) (M.getD k 0) < 18446744073709551616) : Wo (zipL f n L M) := by
  refine ⟨by rw [zip_len]; exact hn, fun k => ?_⟩
  by_cases q : k < n
  · rw [zip_getD f n L M k q]
    exact h k
  · rw [getD_out (by rw [zip_len]; omega)]
    omega
theorem and_lst {L M : List Nat} (hL : Wo L) : Wo (zipL (· &&& ·) (min L.length M.length) L M) ∧ lstW (zipL (· &&& ·) (min L.length M.length) L M) = andL (lstW L) (lstW M) := by
  have hw : Wo (zipL (· &&& ·) (min L.length M.length) L M) := zip_wo (by have := hL.1; omega) fun k => and_lt (hL.2 k) _
  refine ⟨hw, lst_and hL.1 hw.1 fun n => bit_and2 (fun k => ?_) n⟩
  by_cases q : k < min L.length M.length
  · exact zip_getD _ _ L M k q
  · rw [getD_out (by rw [zip_len]; omega)]
    by_cases r : k < L.length
    · rw [getD_out (L := M) (by omega), Nat.and_zero]
    · rw [getD_out (L := L) (by omega), Nat.zero_and]
theorem or_lst {L M : List Nat} (hL : Wo L) (hM : Wo M) : Wo (zipL (· ||| ·) (max L.length M.length) L M) ∧ lstW (zipL (· ||| ·) (max L.length M.length) L M) = orL (lstW L) (lstW M) := by
  have hw : Wo (zipL (· ||| ·) (max L.length M.length) L M) := zip_wo (by have := hL.1; have := hM.1; omega) fun k => or_lt (hL.2 k) (hM.2 k)
  refine ⟨hw, lst_or hL.1 hM.1 hw.1 fun n => bit_or2 (fun k => ?_) n⟩
  by_cases q : k < max L.length M.length
  · exact zip_getD _ _ L M k q
  · rw [getD_out (by rw [zip_len]; omega), getD_out (L := L) (by omega), getD_out (L := M) (by omega)]
    rfl
theorem or_tr {L M : List Nat} (hL : Tr L) (hM : Tr M) : Tr (zipL (· ||| ·) (max L.length M.length) L M) := by
  intro n hn
  rw [zip_len] at hn
  rw [zip_getD _ _ L M n (by omega)]
  refine or_ne ?_
  by_cases q : L.length = n + 1
  · exact .inl (hL n q)
  · exact .inr (hM n (by omega))
/-- All below so many. -/
def uptoW (n : Nat) : List Nat := (List.range ((n + 63) / 64)).map fun k => if 64 * k + 64 ≤ n then 18446744073709551615 else 2 ^ (n % 64) - 1
theorem upto_len (n : Nat) : (uptoW n).length = (n + 63) / 64 := by simp [uptoW]
theorem upto_getD (n k : Nat) (hk : k < (n + 63) / 64) : (uptoW n).getD k 0 = if 64 * k + 64 ≤ n then 18446744073709551615 else 2 ^ (n % 64) - 1 := by
  unfold uptoW
  rw [List.getD_eq_getElem?_getD, List.getElem?_map, List.getElem?_range hk]
  rfl
theorem upto_wo {n : Nat} (hn : n ≤ 65536) : Wo (uptoW n) := by
  refine ⟨by rw [upto_len]; omega, fun k => ?_⟩
  by_cases q : k < (n + 63) / 64
  · rw [upto_getD n k q]
    have := pow_lt n
    split <;> omega
  · rw [getD_out (by rw [upto_len]; omega)]
    omega
theorem upto_tr (n : Nat) : Tr (uptoW n) := by
  intro m hm
  rw [upto_len] at hm
  rw [upto_getD n m (by omega)]
  split
  · omega
  · have h1 : n % 64 ≠ 0 := by omega
    have := Nat.one_lt_two_pow h1
    omega
theorem upto_bit (n m : Nat) : bitAt (uptoW n) m = decide (m < n) := by
  unfold bitAt
  by_cases q : m / 64 < (n + 63) / 64
  · rw [upto_getD n _ q]
    split
    · rw [show 18446744073709551615 = 2 ^ 64 - 1 by rfl, Nat.testBit_two_pow_sub_one]
      exact decide_eq_decide.2 (by omega)
    · rw [Nat.testBit_two_pow_sub_one]
      exact decide_eq_decide.2 (by omega)
  · rw [getD_out (by rw [upto_len]; omega), Nat.zero_testBit, decide_eq_false (by omega)]
theorem upto_lst {n : Nat} {i : Int} (hn : n ≤ 65536) (h : n = cut i) : lstW (uptoW n) = uptoL i :=
  lst_upto (upto_wo hn).1 fun m => by rw [upto_bit, h]
/-- What is left of so many words. -/
def subL (L M : List Nat) : List Nat := zipL (fun a b => a &&& (18446744073709551615 - b)) L.length L M
theorem sub_wo {L M : List Nat} (hL : Wo L) : Wo (subL L M) := zip_wo hL.1 fun k => and_lt (hL.2 k) _
theorem and_full {a : Nat} (h : a < 18446744073709551616) : a &&& 18446744073709551615 = a := by
  rw [show 18446744073709551615 = 2 ^ 64 - 1 by rfl, Nat.and_two_pow_sub_one_eq_mod]
  exact Nat.mod_eq_of_lt h
theorem sub_getD (L M : List Nat) (k : Nat) : (subL L M).getD k 0 = L.getD k 0 &&& (18446744073709551615 - M.getD k 0) := by
  unfold subL
  by_cases q : k < L.length
  · exact zip_getD _ _ L M k q
  · rw [getD_out (by rw [zip_len]; omega), getD_out (L := L) (by omega), Nat.zero_and]
theorem not_lst {n : Nat} {i : Int} {M : List Nat} (hn : n ≤ 65536) (h : n = cut i) (hM : Wo M) : lstW (subL (uptoW n) M) = notL (lstW M) i :=
  lst_not (sub_wo (upto_wo hn)).1 fun m => by
    rw [bit_not2 (sub_getD _ _) hM.2, upto_bit, h]
/-- The same numbers, the same words. -/
theorem same_lst {L M : List Nat} (hL : Wo L) (hM : Wo M) (tL : Tr L) (tM : Tr M) : lstW L = lstW M ↔ L = M := by
  constructor
  · intro e
    have h := (lst_same hL.1 hM.1 hL.2 hM.2).1 e
    have hl : L.length = M.length := by
      rcases Nat.lt_trichotomy L.length M.length with q | q | q
      · exfalso
        refine tM (M.length - 1) (by omega) ?_
        rw [← h, getD_out (by omega)]
      · exact q
      · exfalso
        refine tL (L.length - 1) (by omega) ?_
        rw [h, getD_out (by omega)]
    refine List.ext_getElem hl fun k h1 h2 => ?_
    have := h k
    rw [List.getD_eq_getElem?_getD, List.getD_eq_getElem?_getD, List.getElem?_eq_getElem h1, List.getElem?_eq_getElem h2] at this
    exact this
  · rintro rfl
    rfl
end Bw
end Go.Proofs.YtpappcmgnnmbeaaDoor
namespace Go.Proofs.YtpappcmgnnmbeaaDoor
set_option maxRecDepth 20000
open Go.RowKit Go.Maps
namespace Bx
theorem info_i : (Tryd.prog.info? 3).map (fun i => (i.zero, i.size, i.bytes)) = some (some (.int .i64 0), 1, 8) := by kernel_rfl
/-- A row of numbers of the call's own. -/
def Rw (w : World) (B : Nat) (v : Value) (L : List Int) : Prop := w.ownsRow B 3 1 v L.length (L.map (Value.int .i64))
theorem Rw.nil (w : World) (B : Nat) : Rw w B (.slice none 0 0) [] := World.ownsRow_nil _ _ _ _
theorem Rw.out {w w' : World} {v : Value} {L : List Int} (h : Rw w' w.heap.size v L) (hb : Below w.heap.size w w') : Wd.Out w .i64 L (.returned v) w' := Wd.Out.of_own h hb
/-- append of one number. -/
theorem wpList_app (w : World) {ops : Array Oper} {rest : List Oper} {o : Oper} {a : Act} {Q : Exit → Act → World → Prop} (hgd : o.guard = none) (s x : Operand)
    (ho : o.op = .call { callee := .builtin .append, args := #[s, x], argTypes := #[28, 28] })
    (w0 : World) (v : Value) (L : List Int) (hs : a.eval s = v) (hown : Rw w0 w.heap.size v L) (y : Int) (hx : a.eval x = .slice (some ⟨w0.heap.size, 0, none⟩) 1 1) (hL : L.length ≤ 1000000) (hb : Below w.heap.size w w0)
    (h : ∀ v' w', Rw w' w.heap.size v' (L ++ [y]) → Below w.heap.size w w' → wpList Tryd.prog ops Q rest (a.put o.dst v') w') : wpList Tryd.prog ops Q (o :: rest) a (w0.alloc (.cells #[.int .i64 y] 3)) := by
  obtain ⟨i0, hi, hz0, hz1, hz2⟩ := info_parts info_i
  have hb1 := hb.alloc hb.size (.cells #[.int .i64 y] 3)
  refine wpList_plain hgd fun K hK => ?_
  obtain ⟨v', w', hrun, h2, h3, _, _⟩ := run_append_own_at (P := Tryd.prog) (w0.alloc (.cells #[.int .i64 y] 3)) w.heap.size 28 o.type 3 i0 _ 1 8 Tryd.underlying28 hi hz0 hz1 hz2 rfl (by decide) v L.length _ (World.ownsRow.alloc hown _) ⟨w0.heap.size, 0, none⟩ 1 1 [.int .i64 y] rfl (cell_one_new _ _ _) (fun u hu => by rw [List.mem_singleton.1 hu]; rfl) (by unfold maxLen; omega) (by omega) hb1.size
  unfold Oper.wp
  simp [execOp, ho, resolve, invoke, builtin, hs, hx, hrun, Result.andThen]
  exact hK _ _ (h v' w' (by unfold Rw; rw [List.length_append, List.map_append]; exact h2) (hb1.grown h3 hb1.size fun g hg => (World.ownsRow.lt hown g hg).1))
end Bx
end Go.Proofs.YtpappcmgnnmbeaaDoor
namespace Go.Proofs.YtpappcmgnnmbeaaDoor
set_option maxRecDepth 20000
open Go.RowKit Go.Maps
namespace Bx
open Bs
theorem take_next {X : List Int} {k : Nat} (h : k < X.length) : X.take (k + 1) = X.take k ++ [X.getD k 0] := by
  rw [List.take_add_one, List.getElem?_eq_getElem h, List.getD_eq_getElem?_getD, List.getElem?_eq_getElem h]
  rfl
/-- The numbers below k. -/
def upK (k : Nat) : List Int := (List.range k).map fun (j : Nat) => (j : Int)
theorem upK_next (k : Nat) : upK (k + 1) = upK k ++ [(k : Int)] := by unfold upK; rw [List.range_succ, List.map_append]; rfl
theorem upK_len (k : Nat) : (upK k).length = k := by simp [upK]
theorem cut_lt {n : Int} {k : Nat} (h : k < cut n) : (k : Int) < n ∧ (k : Int) < 65536 := by unfold cut at h; omega
theorem cut_ge {n : Int} {k : Nat} (h : ¬ k < cut n) : ¬ (k : Int) < n ∨ ¬ (k : Int) < 65536 := by unfold cut at h; omega
theorem cut_le (n : Int) : cut n ≤ 65536 := by unfold cut; omega
end Bx
end Go.Proofs.YtpappcmgnnmbeaaDoor
namespace Go.Proofs.YtpappcmgnnmbeaaDoor
set_option maxRecDepth 20000
open Go.RowKit Go.Maps
namespace Bx
open Bs
theorem filter_next {X : List Int} {k : Nat} (p : Int → Bool) (h : k < X.length) : (X.take (k + 1)).filter p = (X.take k).filter p ++ if p (X.getD k 0) then [X.getD k 0] else [] := by
  rw [take_next h, List.filter_append, List.filter_cons]
  simp
theorem filter_len {X : List Int} (p : Int → Bool) (k n : Nat) (h : n = X.length) (hn : n ≤ 1000000) : ((X.take k).filter p).length ≤ 1000000 := by
  have h1 := List.length_filter_le p (X.take k)
  have h2 := List.length_take_le k X
  rw [List.length_take] at h1
  omega
theorem upK_filter (p : Int → Bool) (k : Nat) : (upK (k + 1)).filter p = (upK k).filter p ++ if p (k : Int) then [(k : Int)] else [] := by
  rw [upK_next, List.filter_append, List.filter_cons]
  simp
end Bx
end Go.Proofs.YtpappcmgnnmbeaaDoor
