/- The plain arithmetic of layer 4: the checksum's register, step by step and byte by byte; that it is linear and loses nothing. No program, no memory. -/
import Derived.Test.YtahocgmaeokoaaaNumMath
namespace Go.Proofs.Ytahocgmaeokoaaa
namespace Fr

/-- One step of the register. -/
def st (r : Nat) : Nat := if r % 2 = 1 then (r / 2) ^^^ 3988292384 else r / 2
/-- n steps. -/
def stN : Nat → Nat → Nat
  | 0, r => r
  | n + 1, r => stN n (st r)
/-- The register behind one byte more. -/
def bt (r c : Nat) : Nat := stN 8 (r ^^^ c)
/-- The register behind the bytes b. -/
def reg (r : Nat) (b : List Int) : Nat := b.foldl (fun r c => bt r c.toNat) r
/-- The checksum. -/
def sum (b : List Int) : Nat := 4294967295 - reg 4294967295 b
/-- A number of 32 bits as four bytes, the least first. -/
def le4 (n : Nat) : List Int := [((n % 256 : Nat) : Int), ((n / 256 % 256 : Nat) : Int), ((n / 65536 % 256 : Nat) : Int), ((n / 16777216 % 256 : Nat) : Int)]

theorem xor_div (a b : Nat) : (a ^^^ b) / 2 = a / 2 ^^^ b / 2 := by
  have := Nat.shiftRight_xor_distrib (a := a) (b := b) (i := 1)
  simpa [Nat.shiftRight_eq_div_pow] using this
theorem xor_mod (a b : Nat) : (a ^^^ b) % 2 = (a + b) % 2 := by
  have h : (a ^^^ b).testBit 0 = (a.testBit 0 ^^ b.testBit 0) := Nat.testBit_xor ..
  simp only [Nat.testBit_zero] at h
  generalize a ^^^ b = c at h ⊢
  rcases Nat.mod_two_eq_zero_or_one a with p | p <;> rcases Nat.mod_two_eq_zero_or_one b with q | q <;> rcases Nat.mod_two_eq_zero_or_one c with z | z <;> simp [p, q, z] at h <;> omega
theorem xor_lt {n a b : Nat} (ha : a < 2 ^ n) (hb : b < 2 ^ n) : a ^^^ b < 2 ^ n := Nat.xor_lt_two_pow ha hb
theorem xor4 (a b c d : Nat) : (a ^^^ b) ^^^ (c ^^^ d) = (a ^^^ c) ^^^ (b ^^^ d) := by
  rw [Nat.xor_assoc, Nat.xor_assoc, ← Nat.xor_assoc b c d, Nat.xor_comm b c, Nat.xor_assoc c b d]

theorem st_xor (a b : Nat) : st (a ^^^ b) = st a ^^^ st b := by
  have hd := xor_div a b
  have hm := xor_mod a b
  unfold st
  by_cases h1 : a % 2 = 1 <;> by_cases h2 : b % 2 = 1
  · rw [if_neg (by omega), if_pos h1, if_pos h2, hd, xor4, Nat.xor_self, Nat.xor_zero]
  · rw [if_pos (by omega), if_pos h1, if_neg h2, hd, Nat.xor_assoc, Nat.xor_assoc, Nat.xor_comm (b / 2)]
  · rw [if_pos (by omega), if_neg h1, if_pos h2, hd, Nat.xor_assoc]
  · rw [if_neg (by omega), if_neg h1, if_neg h2, hd]
theorem stN_xor (n : Nat) : ∀ a b, stN n (a ^^^ b) = stN n a ^^^ stN n b := by
  induction n with
  | zero => intro a b; rfl
  | succ n ih => intro a b; rw [stN, st_xor, ih]; rfl
theorem st_zero : st 0 = 0 := by decide
theorem stN_zero (n : Nat) : stN n 0 = 0 := by
  induction n with
  | zero => rfl
  | succ n ih => rw [stN, st_zero, ih]
theorem stN_add (m : Nat) : ∀ n r, stN (m + n) r = stN n (stN m r) := by
  induction m with
  | zero => intro n r; rw [Nat.zero_add]; rfl
  | succ m ih => intro n r; rw [show m + 1 + n = (m + n) + 1 by omega, stN, ih]; rfl
theorem stN_snoc (n r : Nat) : stN (n + 1) r = st (stN n r) := by rw [stN_add n 1]; rfl
theorem st_lt {r : Nat} (h : r < 2 ^ 32) : st r < 2 ^ 32 := by
  unfold st
  split
  · exact xor_lt (by omega) (by decide)
  · omega
theorem stN_lt (n : Nat) : ∀ {r : Nat}, r < 2 ^ 32 → stN n r < 2 ^ 32 := by
  induction n with
  | zero => intro r h; exact h
  | succ n ih => intro r h; exact ih (st_lt h)
/-- Nothing is lost: the highest bit of the register tells whether the polynomial was taken. -/
theorem st_inj0 {r : Nat} (h : r < 2 ^ 32) (h0 : st r = 0) : r = 0 := by
  unfold st at h0
  split at h0
  · rename_i q
    have e : r / 2 = 3988292384 := by
      have := congrArg (· ^^^ 3988292384) h0
      simpa [Nat.xor_assoc] using this
    omega
  · omega
theorem stN_inj0 (n : Nat) : ∀ {r : Nat}, r < 2 ^ 32 → stN n r = 0 → r = 0 := by
  induction n with
  | zero => intro r _ h; exact h
  | succ n ih => intro r h h0; exact st_inj0 h (ih (st_lt h) h0)

/-- Eight steps of a number whose low 8 bits are 0 shift it. -/
theorem stN_up (n : Nat) : ∀ k, stN n (k * 2 ^ n) = k := by
  induction n with
  | zero => intro k; simp [stN]
  | succ n ih =>
    intro k
    rw [stN]
    have e : k * 2 ^ (n + 1) = 2 * (k * 2 ^ n) := by rw [Nat.pow_succ]; rw [← Nat.mul_assoc, Nat.mul_comm]
    have : st (k * 2 ^ (n + 1)) = k * 2 ^ n := by
      unfold st
      rw [e, if_neg (by omega)]
      omega
    rw [this, ih]
theorem xor_split (r : Nat) : r = (r / 256 * 256) ^^^ (r % 256) := by
  refine Nat.eq_of_testBit_eq fun i => ?_
  rw [Nat.testBit_xor]
  have e1 : r / 256 * 256 = 2 ^ 8 * (r / 256) := by omega
  have e2 : r % 256 = r % 2 ^ 8 := rfl
  rw [e1, Nat.testBit_two_pow_mul, e2, Nat.testBit_mod_two_pow]
  by_cases hi : 8 ≤ i
  · have : r / 256 = r >>> 8 := by rw [Nat.shiftRight_eq_div_pow]
    rw [this, Nat.testBit_shiftRight]
    simp [hi, show ¬ i < 8 by omega, show 8 + (i - 8) = i by omega]
  · simp [hi, show i < 8 by omega]
/-- A byte at a time, by the effect of eight steps. -/
theorem bt_tab (r c : Nat) : bt r c = r / 256 ^^^ stN 8 (r % 256 ^^^ c) := by
  unfold bt
  have e : r ^^^ c = (r / 256 * 2 ^ 8) ^^^ (r % 256 ^^^ c) := by
    have h := xor_split r
    rw [← Nat.xor_assoc]
    exact congrArg (· ^^^ c) h
  rw [e, stN_xor, stN_up]
theorem bt_lt {r c : Nat} (hr : r < 2 ^ 32) (hc : c < 2 ^ 32) : bt r c < 2 ^ 32 := stN_lt 8 (xor_lt hr hc)

theorem reg_nil (r : Nat) : reg r [] = r := rfl
theorem reg_cons (r : Nat) (c : Int) (b : List Int) : reg r (c :: b) = reg (bt r c.toNat) b := rfl
theorem reg_app (r : Nat) (a b : List Int) : reg r (a ++ b) = reg (reg r a) b := by simp [reg]
theorem reg_snoc (r : Nat) (a : List Int) (c : Int) : reg r (a ++ [c]) = bt (reg r a) c.toNat := by simp [reg]
theorem reg_lt : ∀ (b : List Int) {r : Nat}, Nm.Byt b → r < 2 ^ 32 → reg r b < 2 ^ 32
  | [], _, _, h => h
  | c :: b, r, hb, h => by
    have hc := hb c (by simp)
    exact reg_lt b (fun x hx => hb x (by simp [hx])) (bt_lt h (by omega))
theorem ones_xor (x : Nat) (h : x < 2 ^ 32) : x ^^^ 4294967295 = 4294967295 - x := by
  have e : x ^^^ (2 ^ 32 - 1) = ((BitVec.ofNat 32 x) ^^^ (BitVec.allOnes 32)).toNat := by
    rw [BitVec.toNat_xor, BitVec.toNat_allOnes, BitVec.toNat_ofNat, Nat.mod_eq_of_lt h]
  have e2 : (2 ^ 32 - 1 : Nat) = 4294967295 := by decide
  rw [← e2, e, BitVec.xor_allOnes, BitVec.toNat_not, BitVec.toNat_ofNat, Nat.mod_eq_of_lt h]
theorem sum_xor (b : List Int) (hb : Nm.Byt b) : sum b = reg 4294967295 b ^^^ 4294967295 := (ones_xor _ (reg_lt b hb (by decide))).symm
theorem sum_lt (b : List Int) : sum b < 2 ^ 32 := by unfold sum; omega

/-- The register is linear: of bytes and of what it began with. -/
theorem reg_xor : ∀ (a b c : List Int) (r s : Nat), a.length = b.length → c.length = a.length → (∀ j, j < a.length → (c.getD j 0).toNat = (a.getD j 0).toNat ^^^ (b.getD j 0).toNat) → reg (r ^^^ s) c = reg r a ^^^ reg s b
  | [], [], [], r, s, _, _, _ => rfl
  | [], _ :: _, _, _, _, h, _, _ => by simp at h
  | _ :: _, [], _, _, _, h, _, _ => by simp at h
  | [], [], _ :: _, _, _, _, h, _ => by simp at h
  | _ :: _, _ :: _, [], _, _, _, h, _ => by simp at h
  | x :: a, y :: b, z :: c, r, s, h1, h2, h3 => by
    have h0 := h3 0 (by simp)
    simp at h0
    rw [reg_cons, reg_cons, reg_cons]
    have e : bt (r ^^^ s) z.toNat = bt r x.toNat ^^^ bt s y.toNat := by
      unfold bt
      rw [h0, xor4, stN_xor]
    rw [e]
    refine reg_xor a b c _ _ (by simpa using h1) (by simpa using h2) fun j hj => ?_
    have := h3 (j + 1) (by simp; omega)
    simpa using this
end Fr
end Go.Proofs.Ytahocgmaeokoaaa
