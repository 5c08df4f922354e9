/- Stable sorting in plain words: places by a three-way comparison, and where it knows no difference by their number. No program, no memory. The plain arithmetic of layer 2: numbers of w bits each, put together to one number and taken apart again. No program is spoken of. Words on memory that the and what goes with it. -/
import Derived.WalkKit
import Derived.Deep.Draws
namespace Go.Proofs.YtaoeipehpakngaaGreatDoor
set_option maxRecDepth 20000
namespace Ssm
structure Wk (cf : Nat → Nat → Int) : Prop where
  neg : ∀ x y, cf x y = -cf y x
  tr : ∀ x y z, cf x y ≤ 0 → cf y z ≤ 0 → cf x z ≤ 0
def Le (cf : Nat → Nat → Int) (x y : Nat) : Prop := cf x y < 0 ∨ (cf x y = 0 ∧ x ≤ y)
instance (cf : Nat → Nat → Int) (x y : Nat) : Decidable (Le cf x y) := by unfold Le; infer_instance
def So (cf : Nat → Nat → Int) (l : List Nat) : Prop := l.Pairwise (Le cf)
def srt (cf : Nat → Nat → Int) (l : List Nat) : List Nat := l.mergeSort fun a b => decide (Le cf a b)
theorem srt_perm (cf : Nat → Nat → Int) (l : List Nat) : (srt cf l).Perm l := List.mergeSort_perm _ _
theorem srt_len (cf : Nat → Nat → Int) (l : List Nat) : (srt cf l).length = l.length := (srt_perm cf l).length_eq
theorem srt_mem {cf : Nat → Nat → Int} {l : List Nat} {x : Nat} : x ∈ srt cf l ↔ x ∈ l := (srt_perm cf l).mem_iff
theorem drop_mem {l : List Nat} {t x : Nat} (h : x ∈ l.drop t) : ∃ i, t ≤ i ∧ i < l.length ∧ x = l.getD i 0 := by
  obtain ⟨i, hi, rfl⟩ := List.mem_iff_getElem.1 h
  rw [List.length_drop] at hi
  exact ⟨t + i, by omega, by omega, by simp [List.getD, List.getElem?_eq_getElem (show t + i < l.length by omega)]⟩
section
variable {cf : Nat → Nat → Int} (W : Wk cf)
include W
theorem Wk.self (x : Nat) : cf x x = 0 := by have := W.neg x x; omega
theorem Wk.total (x y : Nat) : Le cf x y ∨ Le cf y x := by
  have := W.neg x y
  unfold Le
  omega
theorem Wk.le_tr {x y z : Nat} (h : Le cf x y) (k : Le cf y z) : Le cf x z := by
  unfold Le at *
  have n1 := W.neg x y
  have n2 := W.neg y z
  have n3 := W.neg x z
  have t := W.tr x y z (by omega) (by omega)
  by_cases e : cf x z = 0
  · have t1 := W.tr z x y (by omega) (by omega)
    have t2 := W.tr y z x (by omega) (by omega)
    omega
  · omega
theorem Wk.le_anti {x y : Nat} (h : Le cf x y) (k : Le cf y x) : x = y := by
  unfold Le at *
  have := W.neg x y
  omega
theorem Wk.le_self (x : Nat) : Le cf x x := .inr ⟨W.self x, Nat.le_refl _⟩
theorem Wk.le_of_not {x y : Nat} (h : ¬ cf y x < 0) (hxy : x ≤ y) : Le cf x y := by
  have := W.neg x y
  unfold Le
  omega
theorem srt_so (l : List Nat) : So cf (srt cf l) := by
  have := List.pairwise_mergeSort (le := fun a b => decide (Le cf a b)) (fun a b c h k => by
    simp only [decide_eq_true_eq] at *
    exact W.le_tr h k) (fun a b => by
    simp only [Bool.or_eq_true, decide_eq_true_eq]
    exact W.total a b) l
  unfold So srt
  exact this.imp fun h => by simpa using h
theorem srt_only {l m : List Nat} (h : m.Perm l) (hs : So cf m) : m = srt cf l :=
  (h.trans (srt_perm cf l).symm).eq_of_pairwise (fun _ _ _ _ h1 h2 => W.le_anti h1 h2) hs (srt_so W l)
theorem ins_done {A B : List Nat} {e : Nat} (h : So cf (A ++ B)) (hB : ∀ b ∈ B, cf e b < 0) (hA : ∀ a ∈ A, a ≤ e) (hl : ∀ A' d, A = A' ++ [d] → ¬ cf e d < 0) : So cf (A ++ e :: B) := by
  obtain ⟨h1, h2, h3⟩ := List.pairwise_append.1 h
  refine List.pairwise_append.2 ⟨h1, List.pairwise_cons.2 ⟨fun b hb => .inl (hB b hb), h2⟩, fun a ha b hb => ?_⟩
  rcases List.mem_cons.1 hb with rfl | hb
  · rcases List.eq_nil_or_concat A with rfl | ⟨A', d, rfl⟩
    · cases ha
    · rw [List.concat_eq_append] at *
      have hd := hl A' d rfl
      have hde := W.le_of_not hd (hA d (by simp))
      rcases List.mem_append.1 ha with q | q
      · have : Le cf a d := by
          obtain ⟨_, _, h4⟩ := List.pairwise_append.1 h1
          exact h4 a q d (by simp)
        exact W.le_tr this hde
      · simp only [List.mem_singleton] at q
        subst q
        exact hde
  · exact h3 a ha b hb
end
section
variable {cf : Nat → Nat → Int} (W : Wk cf)
include W
theorem so_get {l : List Nat} (h : So cf l) {i j : Nat} (hij : i ≤ j) (hj : j < l.length) : Le cf (l.getD i 0) (l.getD j 0) := by
  by_cases e : i = j
  · subst e; exact W.le_self _
  have := List.pairwise_iff_getElem.1 h i j (by omega) hj (by omega)
  simpa [List.getD, List.getElem?_eq_getElem hj, List.getElem?_eq_getElem (show i < l.length by omega)] using this
end
section
variable {cf : Nat → Nat → Int} (W : Wk cf)
include W
end
end Ssm
namespace Bt
theorem p0 (n : Nat) : (0 : Int) < 2 ^ n := Int.pow_pos (by omega)
theorem pup {a b : Nat} (h : a ≤ b) : (2 : Int) ^ a ≤ 2 ^ b := by
  obtain ⟨c, rfl⟩ : ∃ c, b = a + c := ⟨b - a, by omega⟩
  rw [Int.pow_add]
  have h1 := p0 a
  have h2 := p0 c
  have := Int.mul_le_mul_of_nonneg_left (show (1 : Int) ≤ 2 ^ c by omega) (show (0 : Int) ≤ 2 ^ a by omega)
  omega
def dig (w : Nat) (v : Int) (i : Nat) : Int := v / 2 ^ (w * i) % 2 ^ w
def toD (w n : Nat) (v : Int) : List Int := (List.range n).map (dig w v)
def ofD (w : Nat) : List Int → Int
  | [] => 0
  | x :: r => x + 2 ^ w * ofD w r
def InR (w : Nat) (l : List Int) : Prop := ∀ x, x ∈ l → 0 ≤ x ∧ x < 2 ^ w
theorem dig_lo (w : Nat) (v : Int) (i : Nat) : 0 ≤ dig w v i := Int.emod_nonneg _ (by have := p0 w; omega)
theorem dig_hi (w : Nat) (v : Int) (i : Nat) : dig w v i < 2 ^ w := Int.emod_lt_of_pos _ (p0 w)
theorem toD_len (w n : Nat) (v : Int) : (toD w n v).length = n := by simp [toD]
theorem toD_get (w n : Nat) (v : Int) (i : Nat) (h : i < n) : (toD w n v).getD i 0 = dig w v i := by
  simp [toD, List.getD, h]
theorem toD_inR (w n : Nat) (v : Int) : InR w (toD w n v) := by
  intro x hx
  simp only [toD, List.mem_map] at hx
  obtain ⟨i, _, rfl⟩ := hx
  exact ⟨dig_lo w v i, dig_hi w v i⟩
theorem InR.tail {w : Nat} {x : Int} {r : List Int} (h : InR w (x :: r)) : InR w r := fun y hy => h y (by simp [hy])
theorem ofD_lo {w : Nat} {l : List Int} (h : InR w l) : 0 ≤ ofD w l := by
  induction l with
  | nil => exact Int.le_refl _
  | cons x r ih =>
    have h1 := ih h.tail
    have h2 := (h x (by simp)).1
    have h3 := Int.mul_nonneg (show (0 : Int) ≤ 2 ^ w by have := p0 w; omega) h1
    unfold ofD
    omega
theorem ofD_hi {w : Nat} {l : List Int} (h : InR w l) : ofD w l < 2 ^ (w * l.length) := by
  induction l with
  | nil => simp [ofD]
  | cons x r ih =>
    have h1 := ih h.tail
    have h2 := (h x (by simp)).2
    have h3 := Int.mul_le_mul_of_nonneg_left (show ofD w r + 1 ≤ 2 ^ (w * r.length) by omega) (show (0 : Int) ≤ 2 ^ w by have := p0 w; omega)
    have e : (2 : Int) ^ (w * (x :: r).length) = 2 ^ w * 2 ^ (w * r.length) := by
      rw [← Int.pow_add]; congr 1; simp only [List.length_cons, Nat.mul_add]; omega
    rw [e]
    unfold ofD
    rw [Int.mul_add] at h3
    omega
theorem dig_succ (w : Nat) (x v : Int) (i : Nat) (h0 : 0 ≤ x) (h1 : x < 2 ^ w) : dig w (x + 2 ^ w * v) (i + 1) = dig w v i := by
  have hp := p0 w
  have hq := p0 (w * i)
  unfold dig
  have e : (2 : Int) ^ (w * (i + 1)) = 2 ^ w * 2 ^ (w * i) := by rw [← Int.pow_add]; congr 1; rw [Nat.mul_add]; omega
  rw [e, ← Int.ediv_ediv_of_nonneg (by omega), Int.add_mul_ediv_left _ _ (by omega), Int.ediv_eq_zero_of_lt h0 h1, Int.zero_add]
theorem dig_zero (w : Nat) (x v : Int) (h0 : 0 ≤ x) (h1 : x < 2 ^ w) : dig w (x + 2 ^ w * v) 0 = x := by
  unfold dig
  rw [Nat.mul_zero, Int.pow_zero, Int.ediv_one, Int.add_mul_emod_self_left, Int.emod_eq_of_lt h0 h1]
theorem dig_ofD {w : Nat} {l : List Int} (h : InR w l) (i : Nat) (hi : i < l.length) : dig w (ofD w l) i = l.getD i 0 := by
  induction l generalizing i with
  | nil => simp at hi
  | cons x r ih =>
    have h2 := h x (by simp)
    cases i with
    | zero => exact dig_zero w x _ h2.1 h2.2
    | succ i =>
      have := ih h.tail i (by simpa using hi)
      show dig w (x + 2 ^ w * ofD w r) (i + 1) = _
      rw [dig_succ w x _ i h2.1 h2.2, this]
      rfl
theorem ext_getD {l m : List Int} (hl : l.length = m.length) (h : ∀ i, i < l.length → l.getD i 0 = m.getD i 0) : l = m := by
  refine List.ext_getElem hl fun i h1 h2 => ?_
  have := h i h1
  simpa [List.getD, h1, h2] using this
theorem toD_ofD {w : Nat} {l : List Int} (h : InR w l) : toD w l.length (ofD w l) = l := by
  refine ext_getD (by rw [toD_len]) fun i hi => ?_
  rw [toD_len] at hi
  rw [toD_get _ _ _ _ hi, dig_ofD h i hi]
theorem toD_succ (w n : Nat) (v : Int) : toD w (n + 1) v = v % 2 ^ w :: toD w n (v / 2 ^ w) := by
  have hp := p0 w
  refine ext_getD (by simp [toD_len]) fun i hi => ?_
  rw [toD_len] at hi
  cases i with
  | zero =>
    rw [toD_get _ _ _ _ hi]
    simp [dig]
  | succ i =>
    rw [toD_get _ _ _ _ hi]
    show _ = (toD w n (v / 2 ^ w)).getD i 0
    rw [toD_get _ _ _ _ (by omega)]
    unfold dig
    have e : (2 : Int) ^ (w * (i + 1)) = 2 ^ w * 2 ^ (w * i) := by rw [← Int.pow_add]; congr 1; rw [Nat.mul_add]; omega
    rw [e, ← Int.ediv_ediv_of_nonneg (by omega)]
theorem ofD_toD (w n : Nat) : ∀ v : Int, 0 ≤ v → v < 2 ^ (w * n) → ofD w (toD w n v) = v := by
  induction n with
  | zero =>
    intro v h0 h1
    have : (2 : Int) ^ (w * 0) = 1 := by simp
    rw [this] at h1
    show (0 : Int) = v
    omega
  | succ n ih =>
    intro v h0 h1
    have hp := p0 w
    have e : (2 : Int) ^ (w * (n + 1)) = 2 ^ (w * n) * 2 ^ w := by rw [← Int.pow_add]; congr 1
    rw [e] at h1
    rw [toD_succ]
    show v % 2 ^ w + 2 ^ w * ofD w (toD w n (v / 2 ^ w)) = v
    rw [ih _ (Int.ediv_nonneg h0 (by omega)) (Int.ediv_lt_of_lt_mul hp h1)]
    exact Int.emod_add_mul_ediv v (2 ^ w)
theorem dig_bit (w k : Nat) (U b : Int) (hw : 0 < w) (h0 : 0 ≤ U) (h1 : U < 2 ^ k) (b0 : 0 ≤ b) (b1 : b ≤ 1) (i : Nat) :
    dig w (U + b * 2 ^ k) i = if i = k / w then dig w U i + b * 2 ^ (k % w) else dig w U i := by
  have hk := Nat.div_add_mod k w
  have hr := Nat.mod_lt k hw
  generalize k / w = q at *
  generalize k % w = r at *
  subst hk
  have hbp : ∀ n, 0 ≤ b * 2 ^ n ∧ b * 2 ^ n ≤ 2 ^ n := by
    intro n
    have := p0 n
    rcases (show b = 0 ∨ b = 1 by omega) with rfl | rfl
    · omega
    · omega
  rcases Nat.lt_trichotomy i q with h | h | h
  · rw [if_neg (by omega)]
    obtain ⟨t, ht⟩ : ∃ t, w * q + r = w * i + (t + w) := by
      obtain ⟨d, rfl⟩ : ∃ d, q = i + 1 + d := ⟨q - i - 1, by omega⟩
      refine ⟨w * d + r, ?_⟩
      rw [Nat.mul_add, Nat.mul_add, Nat.mul_one]; omega
    unfold dig
    have hp := p0 (w * i)
    have e : b * (2 : Int) ^ (w * q + r) = 2 ^ (w * i) * (b * 2 ^ t * 2 ^ w) := by
      rw [ht, Int.pow_add, Int.pow_add]; ac_rfl
    rw [e, Int.add_mul_ediv_left _ _ (by omega), Int.add_mul_emod_self_right]
  · subst h
    rw [if_pos rfl]
    unfold dig
    have hp := p0 (w * i)
    have hpr := p0 r
    have hpw := pup (show r + 1 ≤ w by omega)
    rw [Int.pow_succ] at hpw
    have e : b * (2 : Int) ^ (w * i + r) = 2 ^ (w * i) * (b * 2 ^ r) := by rw [Int.pow_add]; ac_rfl
    have hU : U / 2 ^ (w * i) < 2 ^ r := by
      rw [Int.pow_add] at h1
      exact Int.ediv_lt_of_lt_mul hp (by rw [Int.mul_comm]; exact h1)
    have hU0 : 0 ≤ U / 2 ^ (w * i) := Int.ediv_nonneg h0 (by omega)
    have := hbp r
    rw [e, Int.add_mul_ediv_left _ _ (by omega), Int.emod_eq_of_lt hU0 (by omega), Int.emod_eq_of_lt (by omega) (by omega)]
  · rw [if_neg (by omega)]
    have hle : w * q + r + 1 ≤ w * i := by
      have := Nat.mul_le_mul_left w (show q + 1 ≤ i by omega)
      rw [Nat.mul_add, Nat.mul_one] at this
      omega
    have hp := pup hle
    rw [Int.pow_succ] at hp
    have := hbp (w * q + r)
    have hpk := p0 (w * q + r)
    unfold dig
    rw [Int.ediv_eq_zero_of_lt (by omega) (by omega), Int.ediv_eq_zero_of_lt h0 (by omega)]
theorem dig_old (w k : Nat) (U : Int) (hw : 0 < w) (h0 : 0 ≤ U) (h1 : U < 2 ^ k) : dig w U (k / w) < 2 ^ (k % w) := by
  have hk := Nat.div_add_mod k w
  have hr := Nat.mod_lt k hw
  generalize k / w = q at *
  generalize k % w = r at *
  subst hk
  have hp := p0 (w * q)
  have hpw := pup (show r ≤ w by omega)
  have hU : U / 2 ^ (w * q) < 2 ^ r := by
    rw [Int.pow_add] at h1
    exact Int.ediv_lt_of_lt_mul hp (by rw [Int.mul_comm]; exact h1)
  have hU0 : 0 ≤ U / 2 ^ (w * q) := Int.ediv_nonneg h0 (by omega)
  unfold dig
  rw [Int.emod_eq_of_lt hU0 (by omega)]
  exact hU
theorem toD_bit (w n k : Nat) (U b : Int) (hw : 0 < w) (h0 : 0 ≤ U) (h1 : U < 2 ^ k) (b0 : 0 ≤ b) (b1 : b ≤ 1) :
    toD w n (U + b * 2 ^ k) = (toD w n U).set (k / w) (dig w U (k / w) + b * 2 ^ (k % w)) := by
  refine List.ext_getElem (by simp [toD_len]) fun i h2 h3 => ?_
  rw [List.getElem_set]
  simp only [toD, List.getElem_map, List.getElem_range]
  rw [dig_bit w k U b hw h0 h1 b0 b1]
  by_cases h : i = k / w
  · rw [if_pos h, if_pos h.symm, h]
  · rw [if_neg h, if_neg (fun e => h e.symm)]
theorem mod_bit (v : Int) (k : Nat) : v % 2 ^ (k + 1) = v % 2 ^ k + v / 2 ^ k % 2 * 2 ^ k := by
  have hp := p0 k
  have e1 := Int.emod_add_mul_ediv v (2 ^ k)
  have e2 := Int.emod_add_mul_ediv (v / 2 ^ k) 2
  have h1 := Int.emod_nonneg v (show (2 : Int) ^ k ≠ 0 by omega)
  have h2 := Int.emod_lt_of_pos v hp
  have h3 : v / 2 ^ k % 2 = 0 ∨ v / 2 ^ k % 2 = 1 := by omega
  have e3 : v = v % 2 ^ k + v / 2 ^ k % 2 * 2 ^ k + 2 ^ (k + 1) * (v / 2 ^ k / 2) := by
    have : (2 : Int) ^ k * (v / 2 ^ k) = 2 ^ k * (v / 2 ^ k % 2 + 2 * (v / 2 ^ k / 2)) := by rw [e2]
    rw [Int.mul_add] at this
    have e4 : (2 : Int) ^ (k + 1) * (v / 2 ^ k / 2) = 2 ^ k * (2 * (v / 2 ^ k / 2)) := by rw [Int.pow_succ]; ac_rfl
    have e5 : v / 2 ^ k % 2 * (2 : Int) ^ k = 2 ^ k * (v / 2 ^ k % 2) := Int.mul_comm _ _
    omega
  have hb : 0 ≤ v / 2 ^ k % 2 * 2 ^ k ∧ v / 2 ^ k % 2 * 2 ^ k ≤ 2 ^ k := by
    rcases h3 with h | h <;> rw [h] <;> omega
  have h4 : v % 2 ^ k + v / 2 ^ k % 2 * 2 ^ k < 2 ^ (k + 1) := by rw [Int.pow_succ]; omega
  have : (v % 2 ^ k + v / 2 ^ k % 2 * 2 ^ k + 2 ^ (k + 1) * (v / 2 ^ k / 2)) % 2 ^ (k + 1) = v % 2 ^ k + v / 2 ^ k % 2 * 2 ^ k := by
    rw [Int.add_mul_emod_self_left, Int.emod_eq_of_lt (by omega) h4]
  rw [← e3] at this
  exact this
theorem mod_lo (v : Int) (k : Nat) : 0 ≤ v % 2 ^ k := Int.emod_nonneg _ (by have := p0 k; omega)
theorem mod_hi (v : Int) (k : Nat) : v % 2 ^ k < 2 ^ k := Int.emod_lt_of_pos _ (p0 k)
theorem bit_dig (w : Nat) (v : Int) (i j : Nat) (hj : j < w) : v / 2 ^ (w * i + j) % 2 = dig w v i / 2 ^ j % 2 := by
  have hp := p0 (w * i)
  have hq := p0 j
  unfold dig
  rw [Int.pow_add, ← Int.ediv_ediv_of_nonneg (by omega)]
  generalize v / 2 ^ (w * i) = u
  obtain ⟨t, rfl⟩ : ∃ t, w = j + 1 + t := ⟨w - j - 1, by omega⟩
  have e := Int.emod_add_mul_ediv u (2 ^ (j + 1 + t))
  have e2 : u / 2 ^ j = u % 2 ^ (j + 1 + t) / 2 ^ j + 2 * (2 ^ t * (u / 2 ^ (j + 1 + t))) := by
    have e3 : (2 : Int) ^ (j + 1 + t) * (u / 2 ^ (j + 1 + t)) = 2 ^ j * (2 * (2 ^ t * (u / 2 ^ (j + 1 + t)))) := by
      rw [Int.pow_add, Int.pow_add]
      have : (2 : Int) ^ 1 = 2 := rfl
      rw [this]; ac_rfl
    rw [e3] at e
    rw [← Int.add_mul_ediv_left _ _ (show (2 : Int) ^ j ≠ 0 by omega), e]
  omega
theorem ofD_append (w : Nat) (l m : List Int) : ofD w (l ++ m) = ofD w l + 2 ^ (w * l.length) * ofD w m := by
  induction l with
  | nil => simp [ofD]
  | cons x r ih =>
    show x + 2 ^ w * ofD w (r ++ m) = x + 2 ^ w * ofD w r + 2 ^ (w * (r.length + 1)) * ofD w m
    rw [ih, Nat.mul_add, Nat.mul_one, Int.pow_add, Int.mul_add]
    have : (2 : Int) ^ w * (2 ^ (w * r.length) * ofD w m) = 2 ^ (w * r.length) * 2 ^ w * ofD w m := by ac_rfl
    omega
theorem toD_add (w m n : Nat) (v : Int) : toD w (m + n) v = toD w m v ++ toD w n (v / 2 ^ (w * m)) := by
  have hp := p0 (w * m)
  refine ext_getD (by simp [toD_len]) fun i hi => ?_
  rw [toD_len] at hi
  rw [toD_get _ _ _ _ hi]
  by_cases h : i < m
  · simp only [List.getD, List.getElem?_append, toD_len, if_pos h]
    have := toD_get w m v i h
    simp only [List.getD] at this
    rw [this]
  · simp only [List.getD, List.getElem?_append, toD_len, if_neg h]
    have := toD_get w n (v / 2 ^ (w * m)) (i - m) (by omega)
    simp only [List.getD] at this
    rw [this]
    unfold dig
    rw [Int.ediv_ediv_of_nonneg (by omega), ← Int.pow_add, ← Nat.mul_add, show m + (i - m) = i by omega]
theorem toD_mod (w n : Nat) (v : Int) (k : Nat) (hk : w * n ≤ k) : toD w n (v % 2 ^ k) = toD w n v := by
  refine ext_getD (by simp [toD_len]) fun i hi => ?_
  rw [toD_len] at hi
  rw [toD_get _ _ _ _ hi, toD_get _ _ _ _ hi]
  have hle : w * i + w ≤ k := by
    have := Nat.mul_le_mul_left w (show i + 1 ≤ n by omega)
    rw [Nat.mul_add, Nat.mul_one] at this
    omega
  obtain ⟨t, rfl⟩ : ∃ t, k = w * i + (w + t) := ⟨k - (w * i + w), by omega⟩
  have hp := p0 (w * i)
  unfold dig
  have e := Int.emod_add_mul_ediv v (2 ^ (w * i + (w + t)))
  have e3 : (2 : Int) ^ (w * i + (w + t)) * (v / 2 ^ (w * i + (w + t))) = 2 ^ (w * i) * (2 ^ w * (2 ^ t * (v / 2 ^ (w * i + (w + t))))) := by
    rw [Int.pow_add, Int.pow_add]; ac_rfl
  rw [e3] at e
  have : v / 2 ^ (w * i) % 2 ^ w = (v % 2 ^ (w * i + (w + t)) / 2 ^ (w * i) + 2 ^ w * (2 ^ t * (v / 2 ^ (w * i + (w + t))))) % 2 ^ w := by
    rw [← Int.add_mul_ediv_left _ _ (show (2 : Int) ^ (w * i) ≠ 0 by omega), e]
  rw [this, Int.add_mul_emod_self_left]
theorem toD_snoc {w n : Nat} {l : List Int} {x : Int} (h : InR w l) (hn : n = w * l.length) :
    toD 1 (n + w) (ofD w (l ++ [x])) = toD 1 n (ofD w l) ++ toD 1 w x := by
  subst hn
  rw [toD_add, Nat.one_mul]
  have e : ofD w (l ++ [x]) = ofD w l + 2 ^ (w * l.length) * x := by
    rw [ofD_append]; simp [ofD]
  have hp := p0 (w * l.length)
  congr 1
  · rw [e, ← toD_mod 1 _ _ (w * l.length) (by omega), Int.add_mul_emod_self_left, toD_mod 1 _ _ _ (by omega)]
  · rw [e, Int.add_mul_ediv_left _ _ (by omega), Int.ediv_eq_zero_of_lt (ofD_lo h) (ofD_hi h), Int.zero_add]
theorem ofD_cut (w m i : Nat) (v : Int) (h : w * i + w ≤ m) : ofD 1 (((toD 1 m v).drop (w * i)).take w) = dig w v i := by
  obtain ⟨t, rfl⟩ : ∃ t, m = w * i + (w + t) := ⟨m - (w * i + w), by omega⟩
  rw [toD_add, List.drop_left' (by rw [toD_len]), toD_add, List.take_left' (by rw [toD_len])]
  rw [← toD_mod 1 w _ w (by omega), ofD_toD 1 w _ (mod_lo _ _) (by have := mod_hi (v / 2 ^ (1 * (w * i))) w; rwa [Nat.one_mul w])]
  unfold dig
  rw [Nat.one_mul]
end Bt
end Go.Proofs.YtaoeipehpakngaaGreatDoor
namespace Go.Proofs.YtaoeipehpakngaaGreatDoor
set_option maxRecDepth 20000
open Go.RowKit
namespace Wd
def Rd (w : World) (B : Nat) (k : IntKind) (A : Option Addr) (xs : List Int) : Prop :=
  ∀ j, j < xs.length → ∃ b o, A = some ⟨b, o, none⟩ ∧ b < B ∧ w.cell? ⟨b, o + j, none⟩ = some (.int k (xs.getD j 0))
section
variable {w w' : World} {B B' : Nat} {k : IntKind} {A : Option Addr} {xs ys : List Int}
theorem Rd.nil : Rd w B k A [] := fun _ h => absurd h (by simp)
theorem Rd.below (h : Rd w B k A xs) (hb : Below B w w') : Rd w' B k A xs := fun j hj => by
  obtain ⟨b, o, e, hlt, hc⟩ := h j hj
  exact ⟨b, o, e, hlt, (hb.cell (p := ⟨b, o + j, none⟩) hlt).trans hc⟩
theorem Rd.up (h : Rd w B k A xs) (hB : B ≤ B') : Rd w B' k A xs := fun j hj => by
  obtain ⟨b, o, e, hlt, hc⟩ := h j hj
  exact ⟨b, o, e, by omega, hc⟩
theorem Rd.some_ (h : Rd w B k A xs) (hn : 0 < xs.length) : ∃ b o, A = some ⟨b, o, none⟩ ∧ b < B ∧ ∀ j, j < xs.length → w.cell? ⟨b, o + j, none⟩ = some (.int k (xs.getD j 0)) := by
  obtain ⟨b, o, rfl, hlt, _⟩ := h 0 hn
  refine ⟨b, o, rfl, hlt, fun j hj => ?_⟩
  obtain ⟨b', o', e, _, hc⟩ := h j hj
  simp only [Option.some.injEq, Addr.mk.injEq, and_true] at e
  obtain ⟨rfl, rfl⟩ := e
  exact hc
theorem Rd.mk {b o : Nat} (hlt : b < B) (h : ∀ j, j < xs.length → w.cell? ⟨b, o + j, none⟩ = some (.int k (xs.getD j 0))) : Rd w B k (some ⟨b, o, none⟩) xs :=
  fun j hj => ⟨b, o, rfl, hlt, h j hj⟩
theorem Rd.take (h : Rd w B k A xs) (n : Nat) : Rd w B k A (xs.take n) := fun j hj => by
  simp only [List.length_take] at hj
  obtain ⟨b, o, e, hlt, hc⟩ := h j (by omega)
  refine ⟨b, o, e, hlt, ?_⟩
  rw [hc]
  simp [List.getD, show j < n by omega]
theorem Rd.cut (h : Rd w B k A xs) {n c : Nat} (hn : n ≤ xs.length) (hc : xs.length ≤ c) : Rd w B k (if c = n then A else A.map (·.add n)) (xs.drop n) := fun j hj => by
  simp only [List.length_drop] at hj
  obtain ⟨b, o, rfl, hlt, hcell⟩ := h (n + j) (by omega)
  rw [if_neg (by omega)]
  refine ⟨b, o + n, by simp [Addr.add_lit], hlt, ?_⟩
  rw [Nat.add_assoc, hcell]
  simp [List.getD, List.getElem?_drop]
theorem Rd.none_ (h : Rd w B k none xs) : xs = [] := by
  cases xs with
  | nil => rfl
  | cons x r =>
    obtain ⟨b, o, e, _⟩ := h 0 (by simp)
    cases e
theorem own_form {base : Nat} {e : TypeId} {v : Value} {n : Nat} (h : w.ownsRow base e 1 v n (xs.map (Value.int k))) :
    n = xs.length ∧ ∃ A c, v = .slice A xs.length c ∧ xs.length ≤ c ∧ c ≤ maxLen ∧ (A = none → c = 0) ∧ Rd w w.heap.size k A xs := by
  have hl : n = xs.length := by have := h.1; simpa using this.symm
  subst hl
  refine ⟨rfl, ?_⟩
  rcases h.2 with ⟨rfl, h0⟩ | ⟨g, cap, cur, rfl, hb, hg, h1, h2, h3, h4⟩
  · have : xs = [] := List.eq_nil_of_length_eq_zero h0
    subst this
    exact ⟨none, 0, rfl, by simp, by simp [maxLen], fun _ => rfl, Rd.nil⟩
  · refine ⟨_, _, rfl, h1, h2, by simp, Rd.mk (Array.getElem?_eq_some_iff.1 hg).1 fun j hj => ?_⟩
    have := h.cellAt (g := g) (cap := cap) j (by omega)
    rw [Nat.zero_add, this]
    simp [List.getD, List.getElem?_eq_getElem hj]
theorem Rd.lit (w : World) (k : IntKind) (xs : List Int) (e : TypeId) (cs : Array Value) (h : cs = (xs.map (Value.int k)).toArray) :
    Rd (w.alloc (.cells cs e)) (w.heap.size + 1) k (some ⟨w.heap.size, 0, none⟩) xs := by
  subst h
  refine Rd.mk (by omega) fun j hj => ?_
  rw [cell_of_row _ _ _ _ _ _ (heap_alloc_new w _)]
  simp [List.getD, List.getElem?_eq_getElem hj]
end
structure Sl (w : World) (k : IntKind) (A : Option Addr) (n c : Nat) (ys : List Int) : Prop where
  len : n = ys.length
  cap : n ≤ c
  max : c ≤ maxLen
  nil : A = none → c = 0
  rd : Rd w w.heap.size k A ys
def Fits (k : IntKind) (xs : List Int) : Prop := ∀ x, x ∈ xs → (Lit.int k x).wf = true
theorem Sl.below {w w' : World} {k : IntKind} {A : Option Addr} {n c : Nat} {ys : List Int} (h : Sl w k A n c ys) (hb : Below w.heap.size w w') : Sl w' k A n c ys :=
  ⟨h.len, h.cap, h.max, h.nil, (h.rd.below hb).up hb.size⟩
theorem Sl.none_ (w : World) (k : IntKind) : Sl w k none 0 0 [] := ⟨rfl, Nat.le_refl _, Nat.zero_le _, fun _ => rfl, Rd.nil⟩
def Out (w : World) (k : IntKind) (ys : List Int) (e : Ending) (w' : World) : Prop :=
  ∃ A n c, e = .returned (.slice A n c) ∧ Sl w' k A n c ys ∧ Below w.heap.size w w'
theorem Sl.of_own {w : World} {B : Nat} {e : TypeId} {k : IntKind} {v : Value} {n : Nat} {ys : List Int} (h : w.ownsRow B e 1 v n (ys.map (Value.int k))) : ∃ A n c, v = .slice A n c ∧ Sl w k A n c ys := by
  obtain ⟨_, A, c, rfl, h1, h2, h3, h4⟩ := own_form h
  exact ⟨A, _, c, rfl, ⟨rfl, h1, h2, h3, h4⟩⟩
theorem Out.of_own {w w' : World} {B : Nat} {e : TypeId} {k : IntKind} {v : Value} {n : Nat} {ys : List Int} (h : w'.ownsRow B e 1 v n (ys.map (Value.int k))) (hb : Below w.heap.size w w') : Out w k ys (.returned v) w' := by
  obtain ⟨A, n, c, rfl, h1⟩ := Sl.of_own h
  exact ⟨A, n, c, rfl, h1, hb⟩
theorem Sl.lit (w : World) (k : IntKind) (xs : List Int) (e : TypeId) (cs : Array Value) (n : Nat) (h : cs = (xs.map (Value.int k)).toArray) (hn : n = xs.length) (hm : n ≤ maxLen) :
    Sl (w.alloc (.cells cs e)) k (some ⟨w.heap.size, 0, none⟩) n n xs := ⟨hn, Nat.le_refl _, hm, by simp, (Rd.lit w k xs e cs h).up (by simp)⟩
theorem own_below {w w' : World} {B : Nat} {e : TypeId} {size n : Nat} {v : Value} {xs : List Value} (h : w.ownsRow B e size v n xs) (hb : Below w.heap.size w w') : w'.ownsRow B e size v n xs :=
  h.kept ⟨hb.os, hb.tape, hb.output, hb.size, fun k hk _ => hb.block k hk⟩ (row := none) (by cases v.ownBlock <;> simp)
theorem Sl.cut {w : World} {k : IntKind} {A : Option Addr} {n c : Nat} {ys : List Int} (h : Sl w k A n c ys) (q : Nat) (hq : q ≤ n) : Sl w k (if c = q then A else A.map (·.add q)) (n - q) (c - q) (ys.drop q) := by
  obtain ⟨rfl, h1, h2, h3, h4⟩ := h
  refine ⟨by simp, by omega, by omega, ?_, h4.cut hq h1⟩
  intro e
  by_cases hc : c = q
  · omega
  · rw [if_neg hc] at e
    have : A = none := by cases A <;> simp_all
    have := h3 this
    omega
theorem Sl.head {w : World} {k : IntKind} {A : Option Addr} {n c : Nat} {ys : List Int} (h : Sl w k A n c ys) (q : Nat) (hq : q ≤ n) : Sl w k A q c (ys.take q) := by
  obtain ⟨rfl, h1, h2, h3, h4⟩ := h
  exact ⟨by simp [hq], by omega, h2, h3, h4.take q⟩
theorem of_drew {B : Nat} {w w' : World} (h : Below B w.drew w') : Below B w w' := ⟨h.os, h.tape, h.output, h.size, h.block⟩
theorem below_drewN {B : Nat} {a w : World} (h : Below B a w) (n : Nat) : Below B a (w.drewN n) := ⟨h.os, h.tape, h.output, h.size, h.block⟩
section
variable {P : Program} (w : World)
theorem run_app_own (B : Nat) (t ty e : TypeId) (i : TypeInfo) (z : Value) (k : IntKind) (bytes : Nat) (ht : P.underlying t = some (.slice e)) (hi : P.info? e = some i) (hz : i.zero = some z)
    (hsize : i.size = 1) (hby : i.bytes = bytes) (hzs : z.cells.size = 1)
    (v : Value) (xs : List Int) (hown : w.ownsRow B e 1 v xs.length (xs.map (Value.int k)))
    (B' : Nat) (A : Option Addr) (m c : Nat) (ys : List Int) (hm : m = ys.length) (hA : A = none → c = 0) (hr : Rd w B' k A ys)
    (hbytes : (xs.length + ys.length) * bytes ≤ 140737488355328) (h63 : xs.length + ys.length ≤ maxLen) (hB : B ≤ w.heap.size) :
    ∃ v' w', (Builtin.append_ #[t, t] ty #[v, .slice A m c]).run P w = .ok v' w' ∧ w'.ownsRow B e 1 v' (xs ++ ys).length ((xs ++ ys).map (Value.int k)) ∧ w.grownBy w' v.ownBlock := by
  subst hm
  rcases A with _ | ad
  · obtain rfl := hA rfl
    obtain rfl := hr.none_
    refine ⟨v, w, ?_, by simpa using hown, World.grownBy.refl w _⟩
    exact run_append_owned_none (P := P) w B t ty e i 1 ht hi v xs.length _ hown
  · have hcells : ∀ j u, (ys.map (Value.int k))[j]? = some u → w.cell? (ad.add j) = some u := by
      intro j u hu
      have hj : j < ys.length := by simpa using (List.getElem?_eq_some_iff.1 hu).1
      obtain ⟨b, o, e1, _, hc⟩ := hr j hj
      cases e1
      rw [Addr.add_lit, hc, ← hu]
      simp [List.getD, List.getElem?_eq_getElem hj]
    obtain ⟨v', w', hrun, h2, h3, _⟩ := run_append_own (P := P) w B t ty e i z 1 bytes ht hi hz hsize hby hzs (by omega) v xs.length _ hown ad ys.length c (ys.map (Value.int k)) (by simp) hcells (ints_oneCell _ _) h63 hbytes hB
    exact ⟨v', w', hrun, by simpa using h2, h3⟩
theorem wpList_app {ops : Array Oper} {rest : List Oper} {o : Oper} {a : Act} {Q : Exit → Act → World → Prop} (hgd : o.guard = none) (s x : Operand) (t : TypeId)
    (ho : o.op = .call { callee := .builtin .append, args := #[s, x], argTypes := #[t, t] })
    (B : Nat) (e : TypeId) (i : TypeInfo) (z : Value) (k : IntKind) (bytes : Nat) (ht : P.underlying t = some (.slice e)) (hi : P.info? e = some i) (hz : i.zero = some z)
    (hsize : i.size = 1) (hby : i.bytes = bytes) (hzs : z.cells.size = 1)
    (v : Value) (xs : List Int) (hs : a.eval s = v) (hown : w.ownsRow B e 1 v xs.length (xs.map (Value.int k)))
    (B' : Nat) (A : Option Addr) (m c : Nat) (ys : List Int) (hx : a.eval x = .slice A m c) (hm : m = ys.length) (hA : A = none → c = 0) (hr : Rd w B' k A ys)
    (hbytes : (xs.length + ys.length) * bytes ≤ 140737488355328) (h63 : xs.length + ys.length ≤ maxLen) (hB : B ≤ w.heap.size)
    (h : ∀ v' w', w'.ownsRow B e 1 v' (xs ++ ys).length ((xs ++ ys).map (Value.int k)) → w.grownBy w' v.ownBlock → wpList P ops Q rest (a.put o.dst v') w') : wpList P ops Q (o :: rest) a w := by
  refine wpList_plain hgd fun K hK => ?_
  obtain ⟨v', w', hrun, h2, h3⟩ := run_app_own (P := P) w B t o.type e i z k bytes ht hi hz hsize hby hzs v xs hown B' A m c ys hm hA hr hbytes h63 hB
  unfold Oper.wp
  simp [execOp, ho, resolve, invoke, builtin, hs, hx, hrun, Result.andThen]
  exact hK _ _ (h v' w' h2 h3)
theorem wpList_app_full {ops : Array Oper} {rest : List Oper} {o : Oper} {a : Act} {Q : Exit → Act → World → Prop} (hgd : o.guard = none) (s x : Operand) (t : TypeId)
    (ho : o.op = .call { callee := .builtin .append, args := #[s, x], argTypes := #[t, t] })
    (e : TypeId) (i : TypeInfo) (z : Value) (k : IntKind) (bytes : Nat) (ht : P.underlying t = some (.slice e)) (hi : P.info? e = some i) (hz : i.zero = some z)
    (hsize : i.size = 1) (hby : i.bytes = bytes) (hzs : z.cells.size = 1)
    (B0 : Nat) (A0 : Option Addr) (n0 c0 : Nat) (xs : List Int) (hs : a.eval s = .slice A0 n0 c0) (hn : n0 = xs.length) (hc : c0 = xs.length) (h0 : Rd w B0 k A0 xs)
    (B' : Nat) (A : Option Addr) (m c : Nat) (ys : List Int) (hx : a.eval x = .slice A m c) (hm : m = ys.length) (hr : Rd w B' k A ys) (hpos : 0 < ys.length)
    (hbytes : (xs.length + ys.length) * bytes ≤ 140737488355328) (h63 : xs.length + ys.length ≤ maxLen)
    (h : ∀ v' w', w'.ownsRow w.heap.size e 1 v' (xs ++ ys).length ((xs ++ ys).map (Value.int k)) → w.grownBy w' none → wpList P ops Q rest (a.put o.dst v') w') : wpList P ops Q (o :: rest) a w := by
  subst hm hn hc
  obtain ⟨b, oo, rfl, _, hcell⟩ := hr.some_ hpos
  refine wpList_append_grows w hgd s x t ho e i z 1 bytes ht hi hz hsize hby hzs (by omega) A0 xs.length xs.length (xs.map (Value.int k)) hs ?_ (by simp) ?_ ⟨b, oo, none⟩ ys.length c (ys.map (Value.int k)) hx (by simp) ?_ (ints_oneCell _ _) (by omega) h63 hbytes
    (fun v' w' h2 h3 => h v' w' (by simpa using h2) h3)
  · intro hA
    subst hA
    rw [h0.none_]; simp
  · intro ad had j u hu
    have hj : j < xs.length := by simpa using (List.getElem?_eq_some_iff.1 hu).1
    obtain ⟨b, o, e1, _, hc⟩ := h0 j hj
    rw [e1] at had
    cases had
    rw [Addr.add_lit, hc, ← hu]
    simp [List.getD, List.getElem?_eq_getElem hj]
  · intro j u hu
    have hj : j < ys.length := by simpa using (List.getElem?_eq_some_iff.1 hu).1
    rw [Addr.add_lit, hcell j hj, ← hu]
    simp [List.getD, List.getElem?_eq_getElem hj]
def Dst (w : World) (B : Nat) (e : TypeId) (k : IntKind) (v : Value) (xs : List Int) : Prop :=
  w.ownsRow B e 1 v xs.length (xs.map (Value.int k)) ∨ ∃ A, v = .slice A xs.length xs.length ∧ Rd w B k A xs
theorem own_down {w : World} {B B' : Nat} {e : TypeId} {size n : Nat} {v : Value} {xs : List Value} (h : w.ownsRow B e size v n xs) (hB : B' ≤ B) : w.ownsRow B' e size v n xs := by
  obtain ⟨h1, h2⟩ := h
  refine ⟨h1, ?_⟩
  rcases h2 with h2 | ⟨g, cap, cur, hv, hg, r⟩
  · exact .inl h2
  · exact .inr ⟨g, cap, cur, hv, by omega, r⟩
theorem Dst.alloc {w : World} {B : Nat} {e : TypeId} {k : IntKind} {v : Value} {xs : List Int} (h : Dst w B e k v xs) (hB : B ≤ w.heap.size) (o : Obj) : Dst (w.alloc o) B e k v xs := by
  rcases h with h | ⟨A, hv, hr⟩
  · exact .inl (h.alloc o)
  · exact .inr ⟨A, hv, hr.below ((Below.refl B w).alloc hB o)⟩
theorem wpList_app_dst {ops : Array Oper} {rest : List Oper} {o : Oper} {a : Act} {Q : Exit → Act → World → Prop} (hgd : o.guard = none) (s x : Operand) (t : TypeId)
    (ho : o.op = .call { callee := .builtin .append, args := #[s, x], argTypes := #[t, t] })
    (B : Nat) (e : TypeId) (i : TypeInfo) (z : Value) (k : IntKind) (bytes : Nat) (ht : P.underlying t = some (.slice e)) (hi : P.info? e = some i) (hz : i.zero = some z)
    (hsize : i.size = 1) (hby : i.bytes = bytes) (hzs : z.cells.size = 1)
    (v : Value) (xs : List Int) (hs : a.eval s = v) (hd : Dst w B e k v xs)
    (B' : Nat) (A : Option Addr) (m c : Nat) (ys : List Int) (hx : a.eval x = .slice A m c) (hm : m = ys.length) (hr : Rd w B' k A ys) (hpos : 0 < ys.length)
    (hbytes : (xs.length + ys.length) * bytes ≤ 140737488355328) (h63 : xs.length + ys.length ≤ maxLen) (hB : B ≤ w.heap.size)
    (h : ∀ v' w', w'.ownsRow B e 1 v' (xs ++ ys).length ((xs ++ ys).map (Value.int k)) → Below B w w' → wpList P ops Q rest (a.put o.dst v') w') : wpList P ops Q (o :: rest) a w := by
  rcases hd with hd | ⟨A0, rfl, h0⟩
  · refine wpList_app w hgd s x t ho B e i z k bytes ht hi hz hsize hby hzs v xs hs hd B' A m c ys hx hm ?_ hr hbytes h63 hB (fun v' w' h2 h3 => h v' w' h2 ((Below.refl _ _).grown h3 hB fun g hg => (hd.lt g hg).1))
    intro hA
    subst hA
    rw [hr.none_] at hpos
    simp at hpos
  · exact wpList_app_full w hgd s x t ho e i z k bytes ht hi hz hsize hby hzs B A0 _ _ xs hs rfl rfl h0 B' A m c ys hx hm hr hpos hbytes h63 (fun v' w' h2 h3 => h v' w' (own_down h2 hB) ((Below.refl _ _).grown h3 hB (by simp)))
end
end Wd
end Go.Proofs.YtaoeipehpakngaaGreatDoor
