/- The plain arithmetic of layer 4: frames one behind the other, and a beginning of their bytes; a frame of which four bytes in a row were changed. No program, no memory. -/
import Derived.Test.YtahocgmaeokoaaaFrFrame
namespace Go.Proofs.Ytahocgmaeokoaaa
namespace Fr

/-- Frames one behind the other. -/
def cat (l : List (List Int)) : List Int := l.flatMap frame
/-- Where the k-th of them ends. -/
def ed (l : List (List Int)) (k : Nat) : Nat := (cat (l.take k)).length
/-- Payloads that may be. -/
def Fine (l : List (List Int)) : Prop := ∀ p, p ∈ l → p.length ≤ 65536 ∧ Nm.Byt p
theorem cat_nil : cat [] = [] := rfl
theorem cat_cons (p : List Int) (l : List (List Int)) : cat (p :: l) = frame p ++ cat l := rfl
theorem cat_app (l m : List (List Int)) : cat (l ++ m) = cat l ++ cat m := by simp [cat]
theorem cat_take (l : List (List Int)) (k : Nat) (hk : k < l.length) : cat (l.take (k + 1)) = cat (l.take k) ++ frame (l.getD k []) := by
  rw [List.take_succ_eq_append_getElem hk, cat_app]
  simp [cat, List.getD, hk]
theorem ed_zero (l : List (List Int)) : ed l 0 = 0 := rfl
theorem ed_all (l : List (List Int)) : ed l l.length = (cat l).length := by rw [ed, List.take_length]
theorem ed_succ (l : List (List Int)) (k : Nat) (hk : k < l.length) : ed l (k + 1) = ed l k + (frame (l.getD k [])).length := by
  rw [ed, cat_take l k hk, List.length_append]
  rfl
theorem frame_byt {p : List Int} (h : p.length ≤ 65536) (hb : Nm.Byt p) : Nm.Byt (frame p) := by
  intro x hx
  rcases List.mem_append.1 hx with q | q
  · rcases List.mem_append.1 q with q | q
    · exact Nm.vd_byt _ (by omega) (by omega) x q
    · exact hb x q
  · exact le4_byt _ x q
theorem cat_byt {l : List (List Int)} (h : Fine l) : Nm.Byt (cat l) := by
  intro x hx
  obtain ⟨p, hp, hx⟩ := List.mem_flatMap.1 hx
  exact frame_byt (h p hp).1 (h p hp).2 x hx
theorem frame_len (p : List Int) : (frame p).length = (Nm.vd (p.length : Int)).length + p.length + 4 := by
  simp [frame, le4_len]; omega
theorem cat_len {l : List (List Int)} {n : Nat} (h : ∀ p, p ∈ l → p.length ≤ n) : (cat l).length ≤ l.length * (n + 14) := by
  induction l with
  | nil => simp [cat]
  | cons p l ih =>
    have h1 := h p (by simp)
    have h2 := ih (fun q hq => h q (by simp [hq]))
    have h3 := (Nm.vd_len (p.length : Int)).2
    rw [cat_cons, List.length_append, frame_len, List.length_cons, Nat.succ_mul]
    omega
theorem rd_nil : rd [] = ([], 0) := rd_none openF_nil
theorem rd_cat (l : List (List Int)) : ∀ more : List Int, Fine l → rd (cat l ++ more) = (l ++ (rd more).1, (cat l).length + (rd more).2) := by
  induction l with
  | nil => intro more _; rw [cat_nil, List.nil_append, List.nil_append, List.length_nil, Nat.zero_add]
  | cons p l ih =>
    intro more h
    rw [cat_cons, List.append_assoc, rd_frame p _ (h p (by simp)).1, ih more (fun q hq => h q (by simp [hq])), List.length_append]
    simp only [List.cons_append, Nat.add_assoc]
/-- Whatever beginning survives, just those are read that survive as a whole. -/
theorem rd_cut (l : List (List Int)) : ∀ a q : Nat, Fine l → q ≤ l.length → ed l q ≤ a → (q < l.length → a < ed l (q + 1)) → rd ((cat l).take a) = (l.take q, ed l q) := by
  induction l with
  | nil =>
    intro a q _ hq _ _
    obtain rfl : q = 0 := by simpa using hq
    rw [cat_nil, List.take_nil, rd_nil, List.take_nil, ed_zero]
  | cons p l ih =>
    intro a q h hq h1 h2
    have hp := (h p (by simp)).1
    cases q with
    | zero =>
      have h2 := h2 (by simp)
      have e1 : ed (p :: l) 1 = (frame p).length := by
        rw [ed, List.take_succ_cons, List.take_zero, cat_cons, cat_nil, List.append_nil]
      rw [e1] at h2
      rw [cat_cons, List.take_append_of_le_length (by omega), rd_none (openF_cut p hp a h2), List.take_zero, ed_zero]
    | succ q =>
      have e : ∀ j, ed (p :: l) (j + 1) = (frame p).length + ed l j := fun j => by
        rw [ed, List.take_succ_cons, cat_cons, List.length_append]; rfl
      rw [e] at h1
      rw [cat_cons, List.take_append, List.take_of_length_le (by omega), rd_frame p _ hp]
      rw [ih (a - (frame p).length) q (fun r hr => h r (by simp [hr])) (by simpa using hq) (by omega) (fun hl => by
        have := h2 (by simpa using hl)
        rw [e] at this
        omega)]
      rw [e, List.take_succ_cons]

/-! ### A frame of which four bytes in a row were changed -/
/-- The register behind bytes of 0. -/
theorem reg_zeros : ∀ (n r : Nat), reg r (List.replicate n 0) = stN (8 * n) r
  | 0, r => rfl
  | n + 1, r => by
    rw [List.replicate_succ, reg_cons, reg_zeros n]
    unfold bt
    rw [show (0 : Int).toNat = 0 from rfl, Nat.xor_zero, show 8 * (n + 1) = 8 + 8 * n by omega, stN_add]
theorem xor_joinN (n a b : Nat) (h : a < 2 ^ n) : (b * 2 ^ n) ^^^ a = b * 2 ^ n + a := by
  refine Nat.eq_of_testBit_eq fun i => ?_
  have e : (b * 2 ^ n + a) / 2 ^ n = b := by
    rw [Nat.mul_comm, Nat.mul_add_div (Nat.two_pow_pos n), Nat.div_eq_of_lt h, Nat.add_zero]
  have e2 : (b * 2 ^ n + a) % 2 ^ n = a := by
    rw [Nat.mul_comm, Nat.mul_add_mod, Nat.mod_eq_of_lt h]
  rw [Nat.testBit_xor, Nat.mul_comm, Nat.testBit_two_pow_mul, Nat.mul_comm]
  by_cases hi : n ≤ i
  · have h1 : (b * 2 ^ n + a).testBit i = b.testBit (i - n) := by
      have : ((b * 2 ^ n + a) >>> n).testBit (i - n) = b.testBit (i - n) := by rw [Nat.shiftRight_eq_div_pow, e]
      rw [Nat.testBit_shiftRight, show n + (i - n) = i by omega] at this
      exact this
    have h2 : a.testBit i = false := Nat.testBit_lt_two_pow (Nat.lt_of_lt_of_le h (Nat.pow_le_pow_right (by decide) hi))
    rw [h1, h2]
    simp [hi]
  · have h1 : (b * 2 ^ n + a).testBit i = a.testBit i := by
      have : ((b * 2 ^ n + a) % 2 ^ n).testBit i = a.testBit i := by rw [e2]
      rw [Nat.testBit_mod_two_pow] at this
      simpa [show i < n by omega] using this
    rw [h1]
    simp [hi]
/-- Four bytes as one number. -/
def val4 (a b c d : Nat) : Nat := ((d * 256 + c) * 256 + b) * 256 + a
theorem reg_four (r a b c d : Nat) (ha : a < 256) (hb : b < 256) (hc : c < 256) : reg r [(a : Int), (b : Int), (c : Int), (d : Int)] = stN 32 (r ^^^ val4 a b c d) := by
  have up : ∀ n k, k = stN n (k * 2 ^ n) := fun n k => (stN_up n k).symm
  simp only [reg, List.foldl, bt, Int.toNat_natCast]
  have s1 : stN 8 (r ^^^ a) ^^^ b = stN 8 (r ^^^ a ^^^ b * 2 ^ 8) := by
    rw [stN_xor 8 (r ^^^ a) (b * 2 ^ 8), stN_up]
  have s2 : stN 16 (r ^^^ a ^^^ b * 2 ^ 8) ^^^ c = stN 16 (r ^^^ a ^^^ b * 2 ^ 8 ^^^ c * 2 ^ 16) := by
    rw [stN_xor 16 (r ^^^ a ^^^ b * 2 ^ 8) (c * 2 ^ 16), stN_up]
  have s3 : stN 24 (r ^^^ a ^^^ b * 2 ^ 8 ^^^ c * 2 ^ 16) ^^^ d = stN 24 (r ^^^ a ^^^ b * 2 ^ 8 ^^^ c * 2 ^ 16 ^^^ d * 2 ^ 24) := by
    rw [stN_xor 24 (r ^^^ a ^^^ b * 2 ^ 8 ^^^ c * 2 ^ 16) (d * 2 ^ 24), stN_up]
  rw [s1, ← stN_add 8 8, s2, ← stN_add 16 8, s3, ← stN_add 24 8]
  have hv : val4 a b c d = d * 2 ^ 24 ^^^ (c * 2 ^ 16 ^^^ (b * 2 ^ 8 ^^^ a)) := by
    rw [xor_joinN 8 a b (by omega), xor_joinN 16 _ c (by omega), xor_joinN 24 _ d (by omega)]
    unfold val4
    omega
  have hr : r ^^^ val4 a b c d = r ^^^ a ^^^ b * 2 ^ 8 ^^^ c * 2 ^ 16 ^^^ d * 2 ^ 24 := by
    rw [hv, Nat.xor_comm (d * 2 ^ 24), Nat.xor_comm (c * 2 ^ 16), Nat.xor_comm (b * 2 ^ 8) a]
    simp only [Nat.xor_assoc]
  rw [hr]
theorem val4_zero {a b c d : Nat} (h : val4 a b c d = 0) : a = 0 ∧ b = 0 ∧ c = 0 ∧ d = 0 := by unfold val4 at h; omega
theorem reg_le4 (r s : Nat) (hs : s < 2 ^ 32) : reg r (le4 s) = stN 32 (r ^^^ s) := by
  unfold le4
  rw [reg_four r _ _ _ _ (by omega) (by omega) (by omega)]
  have e : val4 (s % 256) (s / 256 % 256) (s / 65536 % 256) (s / 16777216 % 256) = s := by unfold val4; omega
  rw [e]
/-- The register behind a payload and its checksum is always the same. -/
theorem reg_whole (p : List Int) (hp : Nm.Byt p) : reg 4294967295 (p ++ le4 (sum p)) = stN 32 4294967295 := by
  rw [reg_app, reg_le4 _ _ (sum_lt p), sum_xor p hp, ← Nat.xor_assoc, Nat.xor_self, Nat.zero_xor]
/-- What four bytes in a row make of a register of 0. -/
theorem reg_burst (i n a b c d : Nat) (ha : a < 256) (hb : b < 256) (hc : c < 256) (hd : d < 256) (h : reg 0 (List.replicate i 0 ++ [(a : Int), (b : Int), (c : Int), (d : Int)] ++ List.replicate n 0) = 0) : a = 0 ∧ b = 0 ∧ c = 0 ∧ d = 0 := by
  rw [reg_app, reg_app, reg_zeros n, reg_zeros i, stN_zero, reg_four 0 a b c d ha hb hc, Nat.zero_xor] at h
  have hv : val4 a b c d < 2 ^ 32 := by unfold val4; omega
  exact val4_zero (stN_inj0 32 hv (stN_inj0 _ (stN_lt 32 hv) h))

/-- A frame of which four bytes in a row behind its length were changed is none. -/
theorem openF_burst (p more x : List Int) (i a b c d : Nat) (hl : p.length ≤ 65536) (hp : Nm.Byt p) (hx : Nm.Byt x) (hi : i ≤ p.length) (ha : a < 256) (hb : b < 256) (hc : c < 256) (hd : d < 256) (hne : ¬ (a = 0 ∧ b = 0 ∧ c = 0 ∧ d = 0))
    (hlen : x.length = (frame p ++ more).length) (hv : x.take (Nm.vd (p.length : Int)).length = Nm.vd (p.length : Int))
    (hget : ∀ j, j < p.length + 4 → (x.getD ((Nm.vd (p.length : Int)).length + j) 0).toNat = ((p ++ le4 (sum p)).getD j 0).toNat ^^^ ((List.replicate i 0 ++ [(a : Int), (b : Int), (c : Int), (d : Int)] ++ List.replicate (p.length - i) 0).getD j 0).toNat) : openF x = none := by
  obtain ⟨k, hk⟩ : ∃ k, k = (Nm.vd (p.length : Int)).length := ⟨_, rfl⟩
  have hxl : k + p.length + 4 ≤ x.length := by rw [hlen, List.length_append, frame_len, hk]; omega
  rw [← hk] at hv hget
  have hg : Nm.getL x = ((p.length : Int), (k : Int), 0) := by
    have e : x = Nm.vd (p.length : Int) ++ x.drop k := by rw [← hv, List.take_append_drop]
    rw [e]
    unfold Nm.getL
    rw [Nm.gv_vd _ _ (by omega) (by omega), ← hk]
    exact if_neg (show ¬ 9223372036854775807 < (p.length : Int) by omega)
  unfold openF
  rw [hg]
  simp only [Int.toNat_natCast]
  rw [if_neg (by simp; omega), if_neg (by omega)]
  refine if_neg fun h => hne ?_
  have hB : Nm.Byt ((x.drop k).take p.length) := fun y hy => hx y (List.mem_of_mem_drop (List.mem_of_mem_take hy))
  have hz : (x.drop k).take (p.length + 4) = (x.drop k).take p.length ++ le4 (sum ((x.drop k).take p.length)) := by
    rw [h, List.take_add, List.drop_drop]
  have h1 := reg_whole _ hB
  rw [← hz] at h1
  have h2 := reg_whole p hp
  have h3 := reg_xor (p ++ le4 (sum p)) ((x.drop k).take (p.length + 4)) (List.replicate i 0 ++ [(a : Int), (b : Int), (c : Int), (d : Int)] ++ List.replicate (p.length - i) 0) 4294967295 4294967295 (by simp [le4_len]; omega) (by simp [le4_len]; omega) (fun j hj => by
    simp only [List.length_append, le4_len] at hj
    have e : ((x.drop k).take (p.length + 4)).getD j 0 = x.getD (k + j) 0 := by
      simp [List.getD, hj]
    rw [e, hget j hj, ← Nat.xor_assoc, Nat.xor_self, Nat.zero_xor])
  rw [h1, h2, Nat.xor_self, Nat.xor_self] at h3
  exact reg_burst i _ a b c d ha hb hc hd h3
end Fr
end Go.Proofs.Ytahocgmaeokoaaa
