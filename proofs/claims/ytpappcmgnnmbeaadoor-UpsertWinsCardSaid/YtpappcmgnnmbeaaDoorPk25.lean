/- The number of ones of a word of 64 bits, by eight bytes side by side. No program. The numbers of a set word by word, the lowest bit first. No program. -/
import Derived.Lib.TrailingZeros
import Derived.Test.YtpappcmgnnmbeaaDoorPk08
namespace Go.Proofs.YtpappcmgnnmbeaaDoor
set_option maxRecDepth 20000
namespace Bw
open Bs
/-- Bytes, the least first, as one number. -/
def val : List Nat → Nat
  | [] => 0
  | a :: l => a + 256 * val l
theorem and_split (k u v r m : Nat) (hu : u < 2 ^ k) (hr : r < 2 ^ k) : (u + 2 ^ k * v) &&& (r + 2 ^ k * m) = (u &&& r) + 2 ^ k * (v &&& m) := by
  refine Nat.eq_of_testBit_eq fun j => ?_
  rw [Nat.testBit_and, Nat.add_comm u, Nat.add_comm r, Nat.add_comm (u &&& r), Nat.testBit_two_pow_mul_add _ hu, Nat.testBit_two_pow_mul_add _ hr, Nat.testBit_two_pow_mul_add _ (Nat.lt_of_le_of_lt Nat.and_le_left hu)]
  split <;> rw [Nat.testBit_and]
theorem and_byte (u v r m : Nat) (hu : u < 256) (hr : r < 256) : (u + 256 * v) &&& (r + 256 * m) = (u &&& r) + 256 * (v &&& m) := and_split 8 u v r m hu hr
/-- The same mask for each byte. -/
theorem and_val (r : Nat) (hr : r < 256) : ∀ l : List Nat, (∀ a ∈ l, a < 256) → val l &&& val (l.map fun _ => r) = val (l.map fun a => a &&& r)
  | [], _ => by simp [val]
  | a :: l, h => by
    show (a + 256 * val l) &&& (r + 256 * val (l.map fun _ => r)) = (a &&& r) + 256 * val (l.map fun a => a &&& r)
    rw [and_byte _ _ _ _ (h a (by simp)) hr, and_val r hr l fun b hb => h b (by simp [hb])]
theorem shr_val (s r : Nat) (hs : s ≤ 8) (hr : r < 2 ^ (8 - s)) : ∀ l : List Nat, (∀ a ∈ l, a < 256) → val l / 2 ^ s &&& val (l.map fun _ => r) = val (l.map fun a => a / 2 ^ s &&& r)
  | [], _ => by simp [val]
  | a :: l, h => by
    show (a + 256 * val l) / 2 ^ s &&& (r + 256 * val (l.map fun _ => r)) = (a / 2 ^ s &&& r) + 256 * val (l.map fun a => a / 2 ^ s &&& r)
    have e8 : 2 ^ (8 - s) * 2 ^ s = 256 := by rw [← Nat.pow_add, Nat.sub_add_cancel hs]
    have ha := h a (by simp)
    have hp := Nat.two_pow_pos s
    have hq : a / 2 ^ s < 2 ^ (8 - s) := by rw [Nat.div_lt_iff_lt_mul hp, e8]; exact ha
    have e1 : (a + 256 * val l) / 2 ^ s = a / 2 ^ s + 2 ^ (8 - s) * val l := by
      rw [← e8, Nat.mul_right_comm, Nat.add_mul_div_right _ _ hp]
    have h8 : 2 ^ (8 - s) ≤ 256 := by
      have := Nat.pow_le_pow_right (n := 2) (by omega) (show 8 - s ≤ 8 by omega)
      exact this
    have e2 : (256 : Nat) = 2 ^ (8 - s) * 2 ^ s := e8.symm
    rw [e1, ← shr_val s r hs hr l fun b hb => h b (by simp [hb])]
    have e3 : val l = val l % 2 ^ s + 2 ^ s * (val l / 2 ^ s) := (Nat.mod_add_div _ _).symm
    have e4 : a / 2 ^ s + 2 ^ (8 - s) * val l = (a / 2 ^ s + 2 ^ (8 - s) * (val l % 2 ^ s)) + 256 * (val l / 2 ^ s) := by
      conv => lhs; rw [e3, Nat.mul_add, ← Nat.mul_assoc, e8, ← Nat.add_assoc]
    have hm := Nat.mod_lt (val l) hp
    have hlt : a / 2 ^ s + 2 ^ (8 - s) * (val l % 2 ^ s) < 256 := by
      have : 2 ^ (8 - s) * (val l % 2 ^ s + 1) ≤ 2 ^ (8 - s) * 2 ^ s := Nat.mul_le_mul_left _ hm
      rw [Nat.mul_add, e8] at this
      omega
    have hsp := and_split (8 - s) (a / 2 ^ s) (val l % 2 ^ s) r 0 hq hr
    rw [Nat.mul_zero, Nat.add_zero, Nat.and_zero, Nat.mul_zero, Nat.add_zero] at hsp
    rw [e4, and_byte _ _ _ _ hlt (by omega), hsp]
theorem add_val : ∀ (l : List Nat) (f g : Nat → Nat), val (l.map f) + val (l.map g) = val (l.map fun a => f a + g a)
  | [], _, _ => rfl
  | a :: l, f, g => by
    show (f a + 256 * val (l.map f)) + (g a + 256 * val (l.map g)) = (f a + g a) + 256 * val (l.map fun a => f a + g a)
    rw [← add_val l f g]
    omega
/-- Two halves of a byte added. -/
theorem nib_val : ∀ l : List Nat, (∀ a ∈ l, a % 16 ≤ 4 ∧ a / 16 ≤ 4) → (val l / 16 + val l) &&& val (l.map fun _ => 15) = val (l.map fun a => a / 16 + a % 16) ∧ val l % 16 ≤ 4
  | [], _ => by simp [val]
  | a :: l, h => by
    obtain ⟨ih, h4⟩ := nib_val l fun b hb => h b (by simp [hb])
    obtain ⟨h1, h2⟩ := h a (by simp)
    refine ⟨?_, by show (a + 256 * val l) % 16 ≤ 4; omega⟩
    show ((a + 256 * val l) / 16 + (a + 256 * val l)) &&& (15 + 256 * val (l.map fun _ => 15)) = (a / 16 + a % 16) + 256 * val (l.map fun a => a / 16 + a % 16)
    have e : (a + 256 * val l) / 16 + (a + 256 * val l) = (a / 16 + a % 16 + 16 * (a / 16 + val l % 16)) + 256 * (val l / 16 + val l) := by omega
    have hsp := and_split 4 (a / 16 + a % 16) (a / 16 + val l % 16) 15 0 (by omega) (by omega)
    rw [Nat.and_zero] at hsp
    rw [e, and_byte _ _ _ _ (by omega) (by omega), ih]
    have h15 : (a / 16 + a % 16) &&& 15 = a / 16 + a % 16 := by
      rw [show 15 = 2 ^ 4 - 1 by rfl, Nat.and_two_pow_sub_one_eq_mod]
      omega
    rw [h15] at hsp
    simpa using hsp
/-- The ones of a byte. -/
def pop8 (a : Nat) : Nat := (List.range 8).countP fun j => a.testBit j
theorem pop_val : ∀ l : List Nat, (∀ a ∈ l, a < 256) → ((List.range (8 * l.length)).countP fun j => (val l).testBit j) = (l.map pop8).sum
  | [], _ => rfl
  | a :: l, h => by
    have e : List.range (8 * (a :: l).length) = List.range 8 ++ (List.range (8 * l.length)).map (8 + ·) := by
      rw [List.length_cons, Nat.mul_succ, Nat.add_comm, List.range_add]
    have e2 : ∀ j, (val (a :: l)).testBit j = if j < 8 then a.testBit j else (val l).testBit (j - 8) := fun j => by
      show (a + 256 * val l).testBit j = _
      rw [Nat.add_comm]
      exact Nat.testBit_two_pow_mul_add (i := 8) _ (h a (by simp)) j
    rw [e, List.countP_append, List.countP_map, List.map_cons, List.sum_cons, ← pop_val l fun b hb => h b (by simp [hb])]
    congr 1
    · unfold pop8
      refine List.countP_congr fun j hj => ?_
      rw [e2, if_pos (by simpa using hj)]
    · refine List.countP_congr fun j _ => ?_
      simp only [Function.comp]
      rw [e2, if_neg (by omega), Nat.add_sub_cancel_left]
def g1 (a : Nat) : Nat := (a / 2 &&& 85) + (a &&& 85)
def g2 (a : Nat) : Nat := (a / 4 &&& 51) + (a &&& 51)
def g3 (a : Nat) : Nat := a / 16 + a % 16
theorem g_all : ∀ a : Fin 256, g1 a.val < 256 ∧ g2 (g1 a.val) % 16 ≤ 4 ∧ g2 (g1 a.val) / 16 ≤ 4 ∧ g3 (g2 (g1 a.val)) = pop8 a.val ∧ pop8 a.val ≤ 8 := by decide +kernel
theorem g_at (a : Nat) (h : a < 256) : g1 a < 256 ∧ g2 (g1 a) % 16 ≤ 4 ∧ g2 (g1 a) / 16 ≤ 4 ∧ g3 (g2 (g1 a)) = pop8 a ∧ pop8 a ≤ 8 := g_all ⟨a, h⟩
/-- The first three steps, and what they leave: the ones of each byte. -/
theorem ones_bytes (l : List Nat) (h : ∀ a ∈ l, a < 256) (x x1 x2 x3 : Nat) (hx : x = val l)
    (h1 : x1 = (x / 2 &&& val (l.map fun _ => 85)) + (x &&& val (l.map fun _ => 85))) (h2 : x2 = (x1 / 4 &&& val (l.map fun _ => 51)) + (x1 &&& val (l.map fun _ => 51))) (h3 : x3 = (x2 / 16 + x2) &&& val (l.map fun _ => 15)) :
    x1 = val (l.map g1) ∧ x2 = val (l.map fun a => g2 (g1 a)) ∧ x3 = val (l.map pop8) := by
  have e1 : x1 = val (l.map g1) := by
    rw [h1, hx, and_val 85 (by omega) l h, shr_val 1 85 (by omega) (by decide) l h, add_val]
    rfl
  have hl1 : ∀ a ∈ l.map g1, a < 256 := fun a ha => by
    obtain ⟨b, hb, rfl⟩ := List.mem_map.1 ha
    exact (g_at b (h b hb)).1
  have e2 : x2 = val (l.map fun a => g2 (g1 a)) := by
    have k1 := and_val 51 (by omega) _ hl1
    have k2 := shr_val 2 51 (by omega) (by decide) _ hl1
    rw [List.map_map] at k1 k2
    simp only [Function.comp_def] at k1 k2
    rw [h2, e1]
    rw [show (4 : Nat) = 2 ^ 2 by rfl, k1, k2, List.map_map, List.map_map, add_val]
    rfl
  have hl2 : ∀ a ∈ l.map (fun a => g2 (g1 a)), a % 16 ≤ 4 ∧ a / 16 ≤ 4 := fun a ha => by
    obtain ⟨b, hb, rfl⟩ := List.mem_map.1 ha
    exact ⟨(g_at b (h b hb)).2.1, (g_at b (h b hb)).2.2.1⟩
  refine ⟨e1, e2, ?_⟩
  have k := (nib_val _ hl2).1
  rw [List.map_map, List.map_map] at k
  simp only [Function.comp_def] at k
  rw [h3, e2, k]
  congr 1
  refine List.map_congr_left fun a ha => ?_
  exact (g_at a (h a ha)).2.2.2.1
theorem q1 (c r : Nat) (h : c < 256) : (c + 256 * r) / 256 = r := by omega
theorem q2 (c d r : Nat) (hc : c < 256) (hd : d < 256) : (c + 256 * (d + 256 * r)) / 65536 = r := by omega
theorem q4 (c d f g r : Nat) (hc : c < 256) (hd : d < 256) (hf : f < 256) (hg : g < 256) : (c + 256 * (d + 256 * (f + 256 * (g + 256 * r)))) / 4294967296 = r := by
  rw [show (4294967296 : Nat) = 65536 * 65536 by rfl, ← Nat.div_div_eq_div_mul, q2 _ _ _ hc hd, q2 _ _ _ hf hg]
theorem q5 (s r : Nat) (h : s < 128) : (s + 256 * r) % 128 = s := by omega
theorem bd (c0 c1 c2 c3 c4 c5 c6 c7 : Nat) (h0 : c0 ≤ 64) (h1 : c1 ≤ 64) (h2 : c2 ≤ 64) (h3 : c3 ≤ 64) (h4 : c4 ≤ 64) (h5 : c5 ≤ 64) (h6 : c6 ≤ 64) (h7 : c7 ≤ 64) : c0 + 256 * (c1 + 256 * (c2 + 256 * (c3 + 256 * (c4 + 256 * (c5 + 256 * (c6 + 256 * c7)))))) < 9223372036854775808 := by omega
theorem bd2 (c0 c1 c2 c3 c4 c5 c6 c7 : Nat) (h0 : c0 ≤ 64) (h1 : c1 ≤ 64) (h2 : c2 ≤ 64) (h3 : c3 ≤ 64) (h4 : c4 ≤ 64) (h5 : c5 ≤ 64) (h6 : c6 ≤ 64) (h7 : c7 ≤ 64) : c0 + 256 * (c1 + 256 * (c2 + 256 * (c3 + 256 * (c4 + 256 * (c5 + 256 * (c6 + 256 * c7)))))) < 18446744073709551616 := by omega
theorem ad1 (a b u : Nat) : (a + 256 * u) + b = (a + b) + 256 * u := by omega
theorem ad (a b u v : Nat) : (a + 256 * u) + (b + 256 * v) = (a + b) + 256 * (u + v) := by omega
theorem tail8 (c0 c1 c2 c3 c4 c5 c6 c7 x3 : Nat) (h0 : c0 ≤ 8) (h1 : c1 ≤ 8) (h2 : c2 ≤ 8) (h3 : c3 ≤ 8) (h4 : c4 ≤ 8) (h5 : c5 ≤ 8) (h6 : c6 ≤ 8) (h7 : c7 ≤ 8) (e : x3 = c0 + 256 * (c1 + 256 * (c2 + 256 * (c3 + 256 * (c4 + 256 * (c5 + 256 * (c6 + 256 * (c7 + 256 * 0)))))))) :
    x3 + x3 / 256 < 18446744073709551616 ∧ (x3 + x3 / 256) + (x3 + x3 / 256) / 65536 < 18446744073709551616 ∧
    ((x3 + x3 / 256) + (x3 + x3 / 256) / 65536) + ((x3 + x3 / 256) + (x3 + x3 / 256) / 65536) / 4294967296 < 9223372036854775808 ∧
    (((x3 + x3 / 256) + (x3 + x3 / 256) / 65536) + ((x3 + x3 / 256) + (x3 + x3 / 256) / 65536) / 4294967296) % 128 = c0 + (c1 + (c2 + (c3 + (c4 + (c5 + (c6 + c7)))))) := by
    have e1 : x3 / 256 = c1 + 256 * (c2 + 256 * (c3 + 256 * (c4 + 256 * (c5 + 256 * (c6 + 256 * (c7 + 256 * 0)))))) := by rw [e]; exact q1 _ _ (Nat.lt_of_le_of_lt h0 (by omega))
    have e2 : x3 + x3 / 256 = (c0 + c1) + 256 * ((c1 + c2) + 256 * ((c2 + c3) + 256 * ((c3 + c4) + 256 * ((c4 + c5) + 256 * ((c5 + c6) + 256 * ((c6 + c7) + 256 * c7)))))) := by
      rw [e1, e]
      simp only [Nat.mul_zero, Nat.add_zero]
      rw [ad, ad, ad, ad, ad, ad, ad1]
    rw [e2]
    clear e e1 e2
    have e3 := q2 (c0 + c1) (c1 + c2) ((c2 + c3) + 256 * ((c3 + c4) + 256 * ((c4 + c5) + 256 * ((c5 + c6) + 256 * ((c6 + c7) + 256 * c7))))) (by omega) (by omega)
    rw [e3]
    clear e3
    rw [ad, ad, ad, ad, ad, ad1]
    have e5 := q4 (c0 + c1 + (c2 + c3)) (c1 + c2 + (c3 + c4)) (c2 + c3 + (c4 + c5)) (c3 + c4 + (c5 + c6)) ((c4 + c5 + (c6 + c7)) + 256 * ((c5 + c6 + c7) + 256 * ((c6 + c7) + 256 * c7))) (by omega) (by omega) (by omega) (by omega)
    rw [e5]
    clear e5
    refine ⟨bd2 _ _ _ _ _ _ _ _ (by omega) (by omega) (by omega) (by omega) (by omega) (by omega) (by omega) (by omega), bd2 _ _ _ _ _ _ _ _ (by omega) (by omega) (by omega) (by omega) (by omega) (by omega) (by omega) (by omega), ?_, ?_⟩
    · rw [ad, ad, ad, ad1]
      exact bd _ _ _ _ _ _ _ _ (by omega) (by omega) (by omega) (by omega) (by omega) (by omega) (by omega) (by omega)
    · rw [ad, q5 _ _ (by omega)]
      omega
/-- math/bits' way to the number of ones of a word. -/
theorem ones_all (x : Nat) (hx : x < 18446744073709551616) : ∃ x1 x2 x3 x4 x5 x6 : Nat,
    x1 = (x / 2 &&& 6148914691236517205) + (x &&& 6148914691236517205) ∧ x1 < 18446744073709551616 ∧
    x2 = (x1 / 4 &&& 3689348814741910323) + (x1 &&& 3689348814741910323) ∧ x2 < 18446744073709551616 ∧ x2 / 16 + x2 < 18446744073709551616 ∧
    x3 = (x2 / 16 + x2) &&& 1085102592571150095 ∧ x4 = x3 + x3 / 256 ∧ x4 < 18446744073709551616 ∧ x5 = x4 + x4 / 65536 ∧ x5 < 18446744073709551616 ∧ x6 = x5 + x5 / 4294967296 ∧ x6 < 9223372036854775808 ∧ x6 % 128 = pop x := by
  obtain ⟨l, hl⟩ : ∃ l, l = [x % 256, x / 256 % 256, x / 65536 % 256, x / 16777216 % 256, x / 4294967296 % 256, x / 1099511627776 % 256, x / 281474976710656 % 256, x / 72057594037927936] := ⟨_, rfl⟩
  have hb : ∀ a ∈ l, a < 256 := by
    rw [hl]
    simp only [List.mem_cons, List.not_mem_nil, or_false]
    rintro a (rfl | rfl | rfl | rfl | rfl | rfl | rfl | rfl) <;> omega
  have hv : x = val l := by
    rw [hl]
    simp only [val]
    omega
  have hlen : l.length = 8 := by rw [hl]; rfl
  have m1 : val (l.map fun _ => 85) = 6148914691236517205 := by rw [hl]; simp [val]
  have m2 : val (l.map fun _ => 51) = 3689348814741910323 := by rw [hl]; simp [val]
  have m3 : val (l.map fun _ => 15) = 1085102592571150095 := by rw [hl]; simp [val]
  obtain ⟨k1, k2, k3⟩ := ones_bytes l hb x _ _ _ hv rfl rfl rfl
  rw [m1] at k1 k2 k3
  rw [m2] at k2 k3
  rw [m3] at k3
  have hp := pop_val l hb
  rw [hlen, ← hv] at hp
  have hlt : ∀ (f : Nat → Nat), (∀ a ∈ l, f a < 256) → val (l.map f) < 18446744073709551616 := fun f hf => by
    rw [hl] at hf ⊢
    simp only [List.mem_cons, List.not_mem_nil, or_false, forall_eq_or_imp, forall_eq] at hf
    simp only [List.map_cons, List.map_nil, val]
    omega
  have b1 := hlt _ fun a ha => (g_at a (hb a ha)).1
  have b2 := hlt (fun a => g2 (g1 a)) fun a ha => by have := g_at a (hb a ha); omega
  have b3 := hlt (fun a => g3 (g2 (g1 a))) fun a ha => by have := g_at a (hb a ha); omega
  have b2' : val (l.map fun a => g2 (g1 a)) < 9223372036854775808 := by
    have := fun a ha => g_at a (hb a ha)
    rw [hl] at this ⊢
    simp only [List.mem_cons, List.not_mem_nil, or_false, forall_eq_or_imp, forall_eq] at this
    simp only [List.map_cons, List.map_nil, val]
    omega
  have k4 := k3
  rw [hl] at hp k4
  simp only [List.map_cons, List.map_nil, val] at k4
  simp only [List.map_cons, List.map_nil, List.sum_cons, List.sum_nil, Nat.add_zero] at hp
  have p8 : ∀ a, a < 256 → pop8 a ≤ 8 := fun a ha => (g_at a ha).2.2.2.2
  obtain ⟨t1, t2, t3, t4⟩ := tail8 _ _ _ _ _ _ _ _ _ (p8 _ (by omega)) (p8 _ (by omega)) (p8 _ (by omega)) (p8 _ (by omega)) (p8 _ (by omega)) (p8 _ (by omega)) (p8 _ (by omega)) (p8 _ (by omega)) k4
  refine ⟨_, _, _, _, _, _, rfl, by rw [k1]; exact b1, rfl, by rw [k2]; exact b2, ?_, rfl, rfl, t1, rfl, t2, rfl, t3, ?_⟩
  · rw [k2]
    omega
  · unfold pop
    rw [t4, hp]
theorem pop_le (x : Nat) : pop x ≤ 64 := by
  have := List.countP_le_length (l := List.range 64) (p := fun j => x.testBit j)
  simpa [pop] using this
theorem sum_le : ∀ L : List Nat, (L.map pop).sum ≤ 64 * L.length
  | [] => by simp
  | a :: L => by
    have := pop_le a
    have := sum_le L
    simp only [List.map_cons, List.sum_cons, List.length_cons]
    omega
end Bw
end Go.Proofs.YtpappcmgnnmbeaaDoor
namespace Go.Proofs.YtpappcmgnnmbeaaDoor
set_option maxRecDepth 20000
namespace Bw
open Bs
/-- The numbers of the word x at place a. -/
def wl (a x : Nat) : List Int := ((List.range 64).filter fun j => x.testBit j).map fun (j : Nat) => (a : Int) * 64 + (j : Int)
theorem wl_zero (a : Nat) : wl a 0 = [] := by
  unfold wl
  rw [List.filter_eq_nil_iff.2 (fun j _ => by rw [Nat.zero_testBit]; simp)]
  rfl
theorem low (x : Nat) (h0 : x ≠ 0) (hx : x < 18446744073709551616) : ∃ k m, k = Lib.ctz 64 x ∧ k < 64 ∧ x = 2 ^ (k + 1) * m + 2 ^ k ∧ x &&& (x - 1) = 2 ^ (k + 1) * m := by
  obtain ⟨m, hm, hk⟩ := Lib.ctzFrom_spec 64 x (by omega) hx
  have e : Lib.ctz 64 x = Lib.ctzFrom 64 x := by simp [Lib.ctz, h0]
  refine ⟨_, m, e.symm, hk, ?_, ?_⟩
  · conv => lhs; rw [hm]
    rw [Nat.pow_succ, Nat.mul_add, Nat.mul_one, ← Nat.mul_assoc]
  · generalize Lib.ctzFrom 64 x = k at *
    have hp := Nat.two_pow_pos k
    have e1 : x = 2 ^ k + 2 ^ (k + 1) * m := by
      rw [hm, Nat.pow_succ, Nat.mul_add, Nat.mul_one, ← Nat.mul_assoc, Nat.add_comm]
    have e2 : x - 1 = (2 ^ k - 1) + 2 ^ (k + 1) * m := by omega
    have hs := and_split (k + 1) (2 ^ k) m (2 ^ k - 1) m (Nat.pow_lt_pow_right (by omega) (by omega)) (Nat.lt_of_le_of_lt (Nat.sub_le _ _) (Nat.pow_lt_pow_right (by omega) (by omega)))
    rw [e2, e1, hs, Nat.and_two_pow_sub_one_eq_mod, Nat.mod_self, Nat.and_self, Nat.zero_add]
theorem wl_next (a x : Nat) (h0 : x ≠ 0) (hx : x < 18446744073709551616) : wl a x = ((a : Int) * 64 + (Lib.ctz 64 x : Int)) :: wl a (x &&& (x - 1)) := by
  obtain ⟨k, m, hk, hk64, e1, e2⟩ := low x h0 hx
  rw [← hk, e2]
  have t1 : ∀ j, x.testBit j = if j < k + 1 then decide (k = j) else m.testBit (j - (k + 1)) := fun j => by
    rw [e1, Nat.testBit_two_pow_mul_add _ (Nat.pow_lt_pow_right (by omega) (by omega)), Nat.testBit_two_pow]
  have t2 : ∀ j, (2 ^ (k + 1) * m).testBit j = if j < k + 1 then false else m.testBit (j - (k + 1)) := fun j => by
    have := Nat.testBit_two_pow_mul_add m (Nat.two_pow_pos (k + 1)) j
    rw [Nat.add_zero] at this
    rw [this, Nat.zero_testBit]
  have er : List.range 64 = List.range k ++ k :: (List.range (63 - k)).map (k + 1 + ·) := by
    have := List.range_add (n := k) (m := 64 - k)
    rw [show k + (64 - k) = 64 by omega] at this
    rw [this]
    congr 1
    rw [show 64 - k = (63 - k) + 1 by omega, List.range_succ_eq_map, List.map_cons, List.map_map]
    congr 1
    exact List.map_congr_left fun j _ => by simp only [Function.comp]; omega
  have tk : x.testBit k = true := by rw [t1, if_pos (Nat.lt_succ_self k), decide_eq_true rfl]
  have uk : (2 ^ (k + 1) * m).testBit k = false := by rw [t2, if_pos (Nat.lt_succ_self k)]
  have f1 : (List.range k).filter (fun j => x.testBit j) = [] := List.filter_eq_nil_iff.2 fun j hj => by
    rw [List.mem_range] at hj
    rw [t1 j, if_pos (by omega), decide_eq_false (by omega)]
    simp
  have f2 : (List.range k).filter (fun j => (2 ^ (k + 1) * m).testBit j) = [] := List.filter_eq_nil_iff.2 fun j hj => by
    rw [List.mem_range] at hj
    rw [t2 j, if_pos (by omega)]
    simp
  have f3 : ((List.range (63 - k)).map (k + 1 + ·)).filter (fun j => x.testBit j) = ((List.range (63 - k)).map (k + 1 + ·)).filter (fun j => (2 ^ (k + 1) * m).testBit j) := List.filter_congr fun j hj => by
    obtain ⟨i, _, rfl⟩ := List.mem_map.1 hj
    rw [t1, t2, if_neg (by omega), if_neg (by omega)]
  unfold wl
  rw [er, List.filter_append, List.filter_append, List.filter_cons, List.filter_cons, tk, uk, f1, f2, f3]
  rfl
theorem low_lt (x : Nat) (h0 : x ≠ 0) : x &&& (x - 1) < x := Nat.lt_of_le_of_lt Nat.and_le_right (by omega)
theorem take_bit (L : List Nat) (a n : Nat) (h : n < 64 * a) : bitAt (L.take a) n = bitAt L n := by
  unfold bitAt
  rw [take_getD, if_pos (by omega)]
theorem lst_next (L : List Nat) (a : Nat) (h : a < L.length) : lstW (L.take (a + 1)) = lstW (L.take a) ++ wl a (L.getD a 0) := by
  have l1 : (L.take (a + 1)).length = a + 1 := by simp; omega
  have l2 : (L.take a).length = a := by simp; omega
  unfold lstW wl
  rw [l1, l2, Nat.mul_succ, List.range_add, List.filter_append, List.map_append]
  congr 1
  · congr 1
    refine List.filter_congr fun j hj => ?_
    rw [List.mem_range] at hj
    rw [take_bit _ _ _ (by omega), take_bit _ _ _ hj]
  · rw [List.filter_map, List.map_map]
    rw [List.filter_congr (q := fun j => (L.getD a 0).testBit j) (fun j hj => by
      rw [List.mem_range] at hj
      simp only [Function.comp]
      rw [take_bit _ _ _ (by omega)]
      unfold bitAt
      rw [show (64 * a + j) / 64 = a by omega, show (64 * a + j) % 64 = j by omega])]
    exact List.map_congr_left fun j _ => by simp only [Function.comp]; omega
theorem lst_pre (L : List Nat) (a : Nat) (h : a ≤ L.length) : lstW (L.take a) <+: lstW L := by
  have l2 : (L.take a).length = a := by simp; omega
  have key := List.range_add (n := 64 * a) (m := 64 * L.length - 64 * a)
  rw [show 64 * a + (64 * L.length - 64 * a) = 64 * L.length by omega] at key
  unfold lstW
  rw [l2, key, List.filter_append, List.map_append]
  rw [List.filter_congr (p := bitAt (L.take a)) (q := bitAt L) (fun j hj => by
    rw [List.mem_range] at hj
    rw [take_bit _ _ _ hj])]
  exact List.prefix_append _ _
theorem lst_le (L : List Nat) : (lstW L).length ≤ 64 * L.length := by
  rw [lstW_len]
  exact sum_le L
end Bw
end Go.Proofs.YtpappcmgnnmbeaaDoor
