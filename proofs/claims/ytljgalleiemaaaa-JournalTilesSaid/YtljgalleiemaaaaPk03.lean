/- The plain arithmetic of layer 4: the frame of a payload; reading frames; a beginning of frames. No program, no memory. The plain arithmetic of layer 4: frames one behind the other, and a beginning of their bytes; a frame of which four bytes in a row were changed. No program, no memory. Entries and journals in plain words: what is applied, what is told, what stands in a file. No program, no memory. -/
import Derived.Test.YtljgalleiemaaaaPk02
namespace Go.Proofs.Ytljgalleiemaaaa
set_option maxRecDepth 20000
namespace Fr
/-- The frame of a payload. -/
def frame (p : List Int) : List Int := Nm.vd p.length ++ p ++ le4 (sum p)
/-- The frame that bytes begin with: its payload and how long it is. -/
def openF (b : List Int) : Option (List Int × Nat) :=
  if (Nm.getL b).2.2 ≠ 0 ∨ 65536 < (Nm.getL b).1 then none
  else if b.length < (Nm.getL b).2.1.toNat + (Nm.getL b).1.toNat + 4 then none
  else if le4 (sum ((b.drop (Nm.getL b).2.1.toNat).take (Nm.getL b).1.toNat)) = (b.drop ((Nm.getL b).2.1.toNat + (Nm.getL b).1.toNat)).take 4 then
    some ((b.drop (Nm.getL b).2.1.toNat).take (Nm.getL b).1.toNat, (Nm.getL b).2.1.toNat + (Nm.getL b).1.toNat + 4)
  else none
/-- Reading at most f frames: the payloads, and how many bytes. -/
def rdF : Nat → List Int → List (List Int) × Nat
  | 0, _ => ([], 0)
  | f + 1, b => match openF b with
    | none => ([], 0)
    | some (p, s) => (p :: (rdF f (b.drop s)).1, s + (rdF f (b.drop s)).2)
/-- Reading all frames that bytes begin with. -/
def rd (b : List Int) : List (List Int) × Nat := rdF (b.length + 1) b

theorem le4_len (n : Nat) : (le4 n).length = 4 := rfl
theorem le4_byt (n : Nat) : Nm.Byt (le4 n) := by
  intro x hx
  simp only [le4, List.mem_cons, List.not_mem_nil, or_false] at hx
  omega
theorem openF_le {b p : List Int} {s : Nat} (h : openF b = some (p, s)) : 4 ≤ s ∧ s ≤ b.length ∧ p.length + 4 ≤ s ∧ p.length ≤ 65536 := by
  unfold openF at h
  split at h
  · cases h
  · rename_i h0
    split at h
    · cases h
    · rename_i h1
      split at h
      · simp only [Option.some.injEq, Prod.mk.injEq] at h
        obtain ⟨rfl, rfl⟩ := h
        simp only [List.length_take, List.length_drop]
        omega
      · cases h
theorem rdF_more : ∀ (f g : Nat) (b : List Int), b.length < f → b.length < g → rdF f b = rdF g b
  | 0, _, _, h, _ => by omega
  | _ + 1, 0, _, _, h => by omega
  | f + 1, g + 1, b, h1, h2 => by
    rw [rdF, rdF]
    cases ho : openF b with
    | none => rfl
    | some q =>
      obtain ⟨p, s⟩ := q
      have hs := openF_le ho
      have e := rdF_more f g (b.drop s) (by simp; omega) (by simp; omega)
      simp only [e]
theorem rd_none {b : List Int} (h : openF b = none) : rd b = ([], 0) := by
  unfold rd
  rw [rdF, h]
theorem rd_some {b p : List Int} {s : Nat} (h : openF b = some (p, s)) : rd b = (p :: (rd (b.drop s)).1, s + (rd (b.drop s)).2) := by
  have hs := openF_le h
  unfold rd
  rw [rdF, h]
  simp only [rdF_more b.length ((b.drop s).length + 1) (b.drop s) (by simp; omega) (by omega)]
theorem openF_nil : openF [] = none := by
  unfold openF
  rw [if_pos (by left; decide)]

/-- Reading of what was framed, whatever stands behind. -/
theorem openF_frame (p more : List Int) (hp : p.length ≤ 65536) : openF (frame p ++ more) = some (p, (frame p).length) := by
  have hg : Nm.getL (frame p ++ more) = ((p.length : Int), ((Nm.vd p.length).length : Int), 0) := by
    unfold frame
    rw [List.append_assoc, List.append_assoc]
    unfold Nm.getL
    rw [Nm.gv_vd _ _ (by omega) (by omega)]
    exact if_neg (show ¬ 9223372036854775807 < (p.length : Int) by omega)
  unfold openF
  rw [hg]
  simp only [Int.toNat_natCast]
  rw [if_neg (by simp; omega), if_neg (by simp [frame, le4_len]; omega)]
  have e0 : frame p ++ more = Nm.vd p.length ++ (p ++ (le4 (sum p) ++ more)) := by simp [frame]
  have e1 : ((frame p ++ more).drop (Nm.vd p.length).length).take p.length = p := by
    rw [e0, List.drop_left, List.take_left]
  have e2 : ((frame p ++ more).drop ((Nm.vd p.length).length + p.length)).take 4 = le4 (sum p) := by
    rw [e0, ← List.drop_drop, List.drop_left, List.drop_left]
    exact List.take_left' (le4_len _)
  rw [e1, e2, if_pos rfl]
  simp only [frame, List.length_append, le4_len]
theorem rd_frame (p more : List Int) (hp : p.length ≤ 65536) : rd (frame p ++ more) = (p :: (rd more).1, (frame p).length + (rd more).2) := by
  rw [rd_some (openF_frame p more hp), List.drop_left]

/-- Whether a frame stands at the beginning is asked of the whole, or of its checksum alone. -/
theorem frame_iff {b p : List Int} {k N : Nat} (hv : b.take k = Nm.vd (N : Int)) (hl : k + N + 4 ≤ b.length) (hp : p = (b.drop k).take N) : frame p = b.take (k + N + 4) ↔ le4 (sum p) = (b.drop (k + N)).take 4 := by
  have hpl : p.length = N := by rw [hp, List.length_take, List.length_drop]; omega
  have e : b.take (k + N + 4) = Nm.vd (N : Int) ++ p ++ (b.drop (k + N)).take 4 := by
    rw [hp, ← hv, List.take_add, List.take_add, List.append_assoc]
  rw [e]
  unfold frame
  rw [hpl]
  exact List.append_right_inj _

/-- A beginning of a frame that is not all of it is none. -/
theorem openF_cut (p : List Int) (hp : p.length ≤ 65536) (k : Nat) (hk : k < (frame p).length) : openF ((frame p).take k) = none := by
  have hv := Nm.gv_vd (p.length : Int) [] (by omega) (by omega)
  rw [List.append_nil] at hv
  have hB : Nm.Byt (Nm.vd (p.length : Int)) := Nm.vd_byt _ (by omega) (by omega)
  obtain ⟨j, u, h1, _, h3, _, _, _, h4, h5⟩ := Nm.gv_only _ hB (by rw [hv])
  have hj : j = (Nm.vd (p.length : Int)).length := by
    rw [hv] at h1
    simp only [Prod.mk.injEq] at h1
    omega
  rcases Nat.lt_or_ge k j with q | q
  · have e : (frame p).take k = (Nm.vd (p.length : Int)).take k := by
      unfold frame
      rw [List.append_assoc, List.take_append_of_le_length (by omega)]
    unfold openF
    rw [e]
    refine if_pos (.inl ?_)
    unfold Nm.getL
    rw [h5 k q]
    decide
  · have e : (frame p).take k = Nm.vd (p.length : Int) ++ (p ++ le4 (sum p)).take (k - j) := by
      unfold frame
      rw [List.append_assoc, List.take_append, List.take_of_length_le (by omega), ← hj]
    have hg : Nm.getL ((frame p).take k) = ((p.length : Int), ((Nm.vd p.length).length : Int), 0) := by
      rw [e]
      unfold Nm.getL
      rw [Nm.gv_vd _ _ (by omega) (by omega)]
      exact if_neg (show ¬ 9223372036854775807 < (p.length : Int) by omega)
    unfold openF
    rw [hg]
    simp only [Int.toNat_natCast]
    rw [if_neg (by simp; omega), if_pos]
    have : (frame p).length = (Nm.vd (p.length : Int)).length + p.length + 4 := by simp [frame, le4_len]; omega
    rw [List.length_take]
    omega
end Fr
end Go.Proofs.Ytljgalleiemaaaa
namespace Go.Proofs.Ytljgalleiemaaaa
set_option maxRecDepth 20000
namespace Fr

/-- Frames one behind the other. -/
def cat (l : List (List Int)) : List Int := l.flatMap frame
/-- Where the k-th of them ends. -/
def ed (l : List (List Int)) (k : Nat) : Nat := (cat (l.take k)).length
/-- Payloads that may be. -/
def Fine (l : List (List Int)) : Prop := ∀ p, p ∈ l → p.length ≤ 65536 ∧ Nm.Byt p
theorem cat_nil : cat [] = [] := rfl
theorem cat_cons (p : List Int) (l : List (List Int)) : cat (p :: l) = frame p ++ cat l := rfl
theorem cat_app (l m : List (List Int)) : cat (l ++ m) = cat l ++ cat m := by simp [cat]
theorem cat_take (l : List (List Int)) (k : Nat) (hk : k < l.length) : cat (l.take (k + 1)) = cat (l.take k) ++ frame (l.getD k []) := by
  rw [List.take_succ_eq_append_getElem hk, cat_app]
  simp [cat, List.getD, hk]
theorem ed_zero (l : List (List Int)) : ed l 0 = 0 := rfl
theorem ed_all (l : List (List Int)) : ed l l.length = (cat l).length := by rw [ed, List.take_length]
theorem ed_succ (l : List (List Int)) (k : Nat) (hk : k < l.length) : ed l (k + 1) = ed l k + (frame (l.getD k [])).length := by
  rw [ed, cat_take l k hk, List.length_append]
  rfl
theorem frame_byt {p : List Int} (h : p.length ≤ 65536) (hb : Nm.Byt p) : Nm.Byt (frame p) := by
  intro x hx
  rcases List.mem_append.1 hx with q | q
  · rcases List.mem_append.1 q with q | q
    · exact Nm.vd_byt _ (by omega) (by omega) x q
    · exact hb x q
  · exact le4_byt _ x q
theorem cat_byt {l : List (List Int)} (h : Fine l) : Nm.Byt (cat l) := by
  intro x hx
  obtain ⟨p, hp, hx⟩ := List.mem_flatMap.1 hx
  exact frame_byt (h p hp).1 (h p hp).2 x hx
theorem frame_len (p : List Int) : (frame p).length = (Nm.vd (p.length : Int)).length + p.length + 4 := by
  simp [frame, le4_len]; omega
theorem cat_len {l : List (List Int)} {n : Nat} (h : ∀ p, p ∈ l → p.length ≤ n) : (cat l).length ≤ l.length * (n + 14) := by
  induction l with
  | nil => simp [cat]
  | cons p l ih =>
    have h1 := h p (by simp)
    have h2 := ih (fun q hq => h q (by simp [hq]))
    have h3 := (Nm.vd_len (p.length : Int)).2
    rw [cat_cons, List.length_append, frame_len, List.length_cons, Nat.succ_mul]
    omega
theorem rd_nil : rd [] = ([], 0) := rd_none openF_nil
theorem rd_cat (l : List (List Int)) : ∀ more : List Int, Fine l → rd (cat l ++ more) = (l ++ (rd more).1, (cat l).length + (rd more).2) := by
  induction l with
  | nil => intro more _; rw [cat_nil, List.nil_append, List.nil_append, List.length_nil, Nat.zero_add]
  | cons p l ih =>
    intro more h
    rw [cat_cons, List.append_assoc, rd_frame p _ (h p (by simp)).1, ih more (fun q hq => h q (by simp [hq])), List.length_append]
    simp only [List.cons_append, Nat.add_assoc]
/-- Whatever beginning survives, just those are read that survive as a whole. -/
theorem rd_cut (l : List (List Int)) : ∀ a q : Nat, Fine l → q ≤ l.length → ed l q ≤ a → (q < l.length → a < ed l (q + 1)) → rd ((cat l).take a) = (l.take q, ed l q) := by
  induction l with
  | nil =>
    intro a q _ hq _ _
    obtain rfl : q = 0 := by simpa using hq
    rw [cat_nil, List.take_nil, rd_nil, List.take_nil, ed_zero]
  | cons p l ih =>
    intro a q h hq h1 h2
    have hp := (h p (by simp)).1
    cases q with
    | zero =>
      have h2 := h2 (by simp)
      have e1 : ed (p :: l) 1 = (frame p).length := by
        rw [ed, List.take_succ_cons, List.take_zero, cat_cons, cat_nil, List.append_nil]
      rw [e1] at h2
      rw [cat_cons, List.take_append_of_le_length (by omega), rd_none (openF_cut p hp a h2), List.take_zero, ed_zero]
    | succ q =>
      have e : ∀ j, ed (p :: l) (j + 1) = (frame p).length + ed l j := fun j => by
        rw [ed, List.take_succ_cons, cat_cons, List.length_append]; rfl
      rw [e] at h1
      rw [cat_cons, List.take_append, List.take_of_length_le (by omega), rd_frame p _ hp]
      rw [ih (a - (frame p).length) q (fun r hr => h r (by simp [hr])) (by simpa using hq) (by omega) (fun hl => by
        have := h2 (by simpa using hl)
        rw [e] at this
        omega)]
      rw [e, List.take_succ_cons]

/-! ### A frame of which four bytes in a row were changed -/
/-- The register behind bytes of 0. -/
theorem reg_zeros : ∀ (n r : Nat), reg r (List.replicate n 0) = stN (8 * n) r
  | 0, r => rfl
  | n + 1, r => by
    rw [List.replicate_succ, reg_cons, reg_zeros n]
    unfold bt
    rw [show (0 : Int).toNat = 0 from rfl, Nat.xor_zero, show 8 * (n + 1) = 8 + 8 * n by omega, stN_add]
theorem xor_joinN (n a b : Nat) (h : a < 2 ^ n) : (b * 2 ^ n) ^^^ a = b * 2 ^ n + a := by
  refine Nat.eq_of_testBit_eq fun i => ?_
  have e : (b * 2 ^ n + a) / 2 ^ n = b := by
    rw [Nat.mul_comm, Nat.mul_add_div (Nat.two_pow_pos n), Nat.div_eq_of_lt h, Nat.add_zero]
  have e2 : (b * 2 ^ n + a) % 2 ^ n = a := by
    rw [Nat.mul_comm, Nat.mul_add_mod, Nat.mod_eq_of_lt h]
  rw [Nat.testBit_xor, Nat.mul_comm, Nat.testBit_two_pow_mul, Nat.mul_comm]
  by_cases hi : n ≤ i
  · have h1 : (b * 2 ^ n + a).testBit i = b.testBit (i - n) := by
      have : ((b * 2 ^ n + a) >>> n).testBit (i - n) = b.testBit (i - n) := by rw [Nat.shiftRight_eq_div_pow, e]
      rw [Nat.testBit_shiftRight, show n + (i - n) = i by omega] at this
      exact this
    have h2 : a.testBit i = false := Nat.testBit_lt_two_pow (Nat.lt_of_lt_of_le h (Nat.pow_le_pow_right (by decide) hi))
    rw [h1, h2]
    simp [hi]
  · have h1 : (b * 2 ^ n + a).testBit i = a.testBit i := by
      have : ((b * 2 ^ n + a) % 2 ^ n).testBit i = a.testBit i := by rw [e2]
      rw [Nat.testBit_mod_two_pow] at this
      simpa [show i < n by omega] using this
    rw [h1]
    simp [hi]
/-- Four bytes as one number. -/
def val4 (a b c d : Nat) : Nat := ((d * 256 + c) * 256 + b) * 256 + a
theorem reg_four (r a b c d : Nat) (ha : a < 256) (hb : b < 256) (hc : c < 256) : reg r [(a : Int), (b : Int), (c : Int), (d : Int)] = stN 32 (r ^^^ val4 a b c d) := by
  have up : ∀ n k, k = stN n (k * 2 ^ n) := fun n k => (stN_up n k).symm
  simp only [reg, List.foldl, bt, Int.toNat_natCast]
  have s1 : stN 8 (r ^^^ a) ^^^ b = stN 8 (r ^^^ a ^^^ b * 2 ^ 8) := by
    rw [stN_xor 8 (r ^^^ a) (b * 2 ^ 8), stN_up]
  have s2 : stN 16 (r ^^^ a ^^^ b * 2 ^ 8) ^^^ c = stN 16 (r ^^^ a ^^^ b * 2 ^ 8 ^^^ c * 2 ^ 16) := by
    rw [stN_xor 16 (r ^^^ a ^^^ b * 2 ^ 8) (c * 2 ^ 16), stN_up]
  have s3 : stN 24 (r ^^^ a ^^^ b * 2 ^ 8 ^^^ c * 2 ^ 16) ^^^ d = stN 24 (r ^^^ a ^^^ b * 2 ^ 8 ^^^ c * 2 ^ 16 ^^^ d * 2 ^ 24) := by
    rw [stN_xor 24 (r ^^^ a ^^^ b * 2 ^ 8 ^^^ c * 2 ^ 16) (d * 2 ^ 24), stN_up]
  rw [s1, ← stN_add 8 8, s2, ← stN_add 16 8, s3, ← stN_add 24 8]
  have hv : val4 a b c d = d * 2 ^ 24 ^^^ (c * 2 ^ 16 ^^^ (b * 2 ^ 8 ^^^ a)) := by
    rw [xor_joinN 8 a b (by omega), xor_joinN 16 _ c (by omega), xor_joinN 24 _ d (by omega)]
    unfold val4
    omega
  have hr : r ^^^ val4 a b c d = r ^^^ a ^^^ b * 2 ^ 8 ^^^ c * 2 ^ 16 ^^^ d * 2 ^ 24 := by
    rw [hv, Nat.xor_comm (d * 2 ^ 24), Nat.xor_comm (c * 2 ^ 16), Nat.xor_comm (b * 2 ^ 8) a]
    simp only [Nat.xor_assoc]
  rw [hr]
theorem val4_zero {a b c d : Nat} (h : val4 a b c d = 0) : a = 0 ∧ b = 0 ∧ c = 0 ∧ d = 0 := by unfold val4 at h; omega
theorem reg_le4 (r s : Nat) (hs : s < 2 ^ 32) : reg r (le4 s) = stN 32 (r ^^^ s) := by
  unfold le4
  rw [reg_four r _ _ _ _ (by omega) (by omega) (by omega)]
  have e : val4 (s % 256) (s / 256 % 256) (s / 65536 % 256) (s / 16777216 % 256) = s := by unfold val4; omega
  rw [e]
/-- The register behind a payload and its checksum is always the same. -/
theorem reg_whole (p : List Int) (hp : Nm.Byt p) : reg 4294967295 (p ++ le4 (sum p)) = stN 32 4294967295 := by
  rw [reg_app, reg_le4 _ _ (sum_lt p), sum_xor p hp, ← Nat.xor_assoc, Nat.xor_self, Nat.zero_xor]
/-- What four bytes in a row make of a register of 0. -/
theorem reg_burst (i n a b c d : Nat) (ha : a < 256) (hb : b < 256) (hc : c < 256) (hd : d < 256) (h : reg 0 (List.replicate i 0 ++ [(a : Int), (b : Int), (c : Int), (d : Int)] ++ List.replicate n 0) = 0) : a = 0 ∧ b = 0 ∧ c = 0 ∧ d = 0 := by
  rw [reg_app, reg_app, reg_zeros n, reg_zeros i, stN_zero, reg_four 0 a b c d ha hb hc, Nat.zero_xor] at h
  have hv : val4 a b c d < 2 ^ 32 := by unfold val4; omega
  exact val4_zero (stN_inj0 32 hv (stN_inj0 _ (stN_lt 32 hv) h))

/-- A frame of which four bytes in a row behind its length were changed is none. -/
theorem openF_burst (p more x : List Int) (i a b c d : Nat) (hl : p.length ≤ 65536) (hp : Nm.Byt p) (hx : Nm.Byt x) (hi : i ≤ p.length) (ha : a < 256) (hb : b < 256) (hc : c < 256) (hd : d < 256) (hne : ¬ (a = 0 ∧ b = 0 ∧ c = 0 ∧ d = 0))
    (hlen : x.length = (frame p ++ more).length) (hv : x.take (Nm.vd (p.length : Int)).length = Nm.vd (p.length : Int))
    (hget : ∀ j, j < p.length + 4 → (x.getD ((Nm.vd (p.length : Int)).length + j) 0).toNat = ((p ++ le4 (sum p)).getD j 0).toNat ^^^ ((List.replicate i 0 ++ [(a : Int), (b : Int), (c : Int), (d : Int)] ++ List.replicate (p.length - i) 0).getD j 0).toNat) : openF x = none := by
  obtain ⟨k, hk⟩ : ∃ k, k = (Nm.vd (p.length : Int)).length := ⟨_, rfl⟩
  have hxl : k + p.length + 4 ≤ x.length := by rw [hlen, List.length_append, frame_len, hk]; omega
  rw [← hk] at hv hget
  have hg : Nm.getL x = ((p.length : Int), (k : Int), 0) := by
    have e : x = Nm.vd (p.length : Int) ++ x.drop k := by rw [← hv, List.take_append_drop]
    rw [e]
    unfold Nm.getL
    rw [Nm.gv_vd _ _ (by omega) (by omega), ← hk]
    exact if_neg (show ¬ 9223372036854775807 < (p.length : Int) by omega)
  unfold openF
  rw [hg]
  simp only [Int.toNat_natCast]
  rw [if_neg (by simp; omega), if_neg (by omega)]
  refine if_neg fun h => hne ?_
  have hB : Nm.Byt ((x.drop k).take p.length) := fun y hy => hx y (List.mem_of_mem_drop (List.mem_of_mem_take hy))
  have hz : (x.drop k).take (p.length + 4) = (x.drop k).take p.length ++ le4 (sum ((x.drop k).take p.length)) := by
    rw [h, List.take_add, List.drop_drop]
  have h1 := reg_whole _ hB
  rw [← hz] at h1
  have h2 := reg_whole p hp
  have h3 := reg_xor (p ++ le4 (sum p)) ((x.drop k).take (p.length + 4)) (List.replicate i 0 ++ [(a : Int), (b : Int), (c : Int), (d : Int)] ++ List.replicate (p.length - i) 0) 4294967295 4294967295 (by simp [le4_len]; omega) (by simp [le4_len]; omega) (fun j hj => by
    simp only [List.length_append, le4_len] at hj
    have e : ((x.drop k).take (p.length + 4)).getD j 0 = x.getD (k + j) 0 := by
      simp [List.getD, hj]
    rw [e, hget j hj, ← Nat.xor_assoc, Nat.xor_self, Nat.zero_xor])
  rw [h1, h2, Nat.xor_self, Nat.xor_self] at h3
  exact reg_burst i _ a b c d ha hb hc hd h3
end Fr
end Go.Proofs.Ytljgalleiemaaaa
namespace Go.Proofs.Ytljgalleiemaaaa
set_option maxRecDepth 20000
namespace Jo
/-- An entry. -/
structure En where
  kind : Int
  part : Int
  id : Int
  st : Int
  en : Int
  size : Int
  sum : Int
deriving DecidableEq, Inhabited
/-- An entry that may be. -/
def May (x : En) : Prop := (0 ≤ x.part ∧ x.part ≤ 3 ∧ 1 ≤ x.id ∧ x.id ≤ 1073741824) ∧
  ((x.kind = 1 ∧ 0 ≤ x.st ∧ x.st ≤ x.en ∧ x.en ≤ 1099511627776 ∧ 0 ≤ x.size ∧ x.size ≤ 16777216 ∧ 0 ≤ x.sum ∧ x.sum ≤ 4294967295) ∨
   (x.kind = 2 ∧ x.st = 0 ∧ x.en = 0 ∧ x.size = 0 ∧ x.sum = 0) ∨
   (x.kind = 3 ∧ x.st = 0 ∧ 0 ≤ x.en ∧ x.en ≤ 1099511627776 ∧ x.size = 0 ∧ x.sum = 0))
instance (x : En) : Decidable (May x) := by unfold May; infer_instance
/-- What is told of a partition. -/
structure Pt where
  gone : Int
  base : Int
  live : List En
deriving DecidableEq
instance : Inhabited Pt := ⟨⟨0, 0, []⟩⟩
def endOf (p : Pt) : Int := match p.live.getLast? with | some x => x.en | none => p.base
def last (p : Pt) : Int := match p.live.getLast? with | some x => x.id | none => p.gone
theorem endOf_app (g b : Int) (l : List En) (x : En) : endOf ⟨g, b, l ++ [x]⟩ = x.en := by simp [endOf]
theorem last_app (g b : Int) (l : List En) (x : En) : last ⟨g, b, l ++ [x]⟩ = x.id := by simp [last]
theorem endOf_cons (g b g' : Int) (x : En) (l : List En) : endOf ⟨g, b, x :: l⟩ = endOf ⟨g', x.en, l⟩ := by
  unfold endOf
  rw [List.getLast?_cons]
  cases h : l.getLast? <;> simp
theorem last_cons (g b b' : Int) (x : En) (l : List En) : last ⟨g, b, x :: l⟩ = last ⟨x.id, b', l⟩ := by
  unfold last
  rw [List.getLast?_cons]
  cases h : l.getLast? <;> simp
/-- What an entry makes of its partition, or none: it can't be applied. -/
def app1 (p : Pt) (x : En) : Option Pt :=
  if x.kind = 1 then (if x.id = last p + 1 ∧ x.st = endOf p then some ⟨p.gone, p.base, p.live ++ [x]⟩ else none)
  else if x.kind = 2 then (match p.live with | [] => none | y :: l => if y.id = x.id then some ⟨x.id, y.en, l⟩ else none)
  else if p.live = [] ∧ p.gone = 0 ∧ p.base = 0 then some ⟨x.id, x.en, []⟩ else none
abbrev Jn := List Pt
def nil_ : Jn := [default, default, default, default]
/-- The journal behind an entry, or none. -/
def app (j : Jn) (x : En) : Option Jn := if May x then (app1 (j.getD x.part.toNat default) x).map fun q => j.set x.part.toNat q else none
/-- The error of Apply. -/
def appE (j : Jn) (x : En) : Int := if May x then (if (app1 (j.getD x.part.toNat default) x).isSome then 0 else 5) else 1
/-- The journal of entries. -/
def made : Jn → List En → Option Jn
  | j, [] => some j
  | j, x :: l => match app j x with | some k => made k l | none => none
theorem made_append (a b : List En) : ∀ j : Jn, made j (a ++ b) = (made j a).bind fun k => made k b := by
  induction a with
  | nil => intro j; rfl
  | cons x a ih =>
    intro j
    rw [List.cons_append, made, made]
    cases app j x with
    | none => rfl
    | some k => exact ih k
theorem app_len {j k : Jn} {x : En} (h : app j x = some k) : k.length = j.length := by
  unfold app at h
  split at h
  · obtain ⟨q, _, rfl⟩ := Option.map_eq_some_iff.1 h
    simp
  · cases h
/-- Live segments follow one another without a gap, from a base and a number on. -/
def Chain (p : Int) : Int → Int → List En → Prop
  | _, _, [] => True
  | b, g, x :: l => x.kind = 1 ∧ x.part = p ∧ x.id = g + 1 ∧ x.st = b ∧ May x ∧ Chain p x.en x.id l
theorem chain_snoc (p : Int) (x : En) (h1 : x.kind = 1) (h2 : x.part = p) (hm : May x) : ∀ (l : List En) (b g : Int), Chain p b g l → x.id = last ⟨g, b, l⟩ + 1 → x.st = endOf ⟨g, b, l⟩ → Chain p b g (l ++ [x])
  | [], b, g, _, h3, h4 => ⟨h1, h2, h3, h4, hm, trivial⟩
  | y :: l, b, g, ⟨a1, a2, a3, a4, a5, a6⟩, h3, h4 => ⟨a1, a2, a3, a4, a5, chain_snoc p x h1 h2 hm l y.en y.id a6 (by rw [← last_cons g b y.en]; exact h3) (by rw [← endOf_cons g b y.id]; exact h4)⟩
/-- What a partition is that entries have made. -/
structure Ok1 (p : Int) (q : Pt) : Prop where
  chain : Chain p q.base q.gone q.live
  low : (q.gone = 0 ∧ q.base = 0) ∨ (1 ≤ q.gone ∧ q.gone ≤ 1073741824 ∧ 0 ≤ q.base ∧ q.base ≤ 1099511627776)
theorem ok1_nil (p : Int) : Ok1 p default := ⟨trivial, .inl ⟨rfl, rfl⟩⟩
theorem app1_ok {p : Int} {q r : Pt} {x : En} (h : Ok1 p q) (hm : May x) (hp : x.part = p) (ha : app1 q x = some r) : Ok1 p r := by
  obtain ⟨g, b, l⟩ := q
  obtain ⟨hc, hl⟩ := h
  unfold app1 at ha
  by_cases k1 : x.kind = 1
  · rw [if_pos k1] at ha
    split at ha
    · rename_i c
      cases ha
      exact ⟨chain_snoc p x k1 hp hm l b g hc c.1 c.2, hl⟩
    · cases ha
  · rw [if_neg k1] at ha
    by_cases k2 : x.kind = 2
    · rw [if_pos k2] at ha
      cases l with
      | nil => cases ha
      | cons y l =>
        simp only at ha
        split at ha
        · rename_i c
          cases ha
          obtain ⟨a1, a2, a3, a4, a5, a6⟩ := hc
          refine ⟨c ▸ a6, .inr ?_⟩
          have m1 := hm.1
          have m2 := a5.2
          simp only
          omega
        · cases ha
    · rw [if_neg k2] at ha
      split at ha
      · cases ha
        refine ⟨trivial, .inr ?_⟩
        have m1 := hm.1
        have m2 := hm.2
        simp only
        omega
      · cases ha
/-- What a journal is that entries have made. -/
def Ok (j : Jn) : Prop := j.length = 4 ∧ ∀ k : Nat, k < 4 → Ok1 (k : Int) (j.getD k default)
theorem ok_nil : Ok nil_ := ⟨rfl, fun k hk => by
  match k, hk with
  | 0, _ => exact ok1_nil _
  | 1, _ => exact ok1_nil _
  | 2, _ => exact ok1_nil _
  | 3, _ => exact ok1_nil _⟩
theorem getD_set (j : Jn) (i k : Nat) (q : Pt) (h : i < j.length) : (j.set i q).getD k default = if i = k then q else j.getD k default := by
  rw [List.getD_eq_getElem?_getD, List.getElem?_set]
  split
  · rename_i e
    subst e
    simp
  · rw [List.getD_eq_getElem?_getD]
theorem app_ok {j k : Jn} {x : En} (h : Ok j) (ha : app j x = some k) : Ok k := by
  unfold app at ha
  split at ha
  · rename_i hm
    obtain ⟨q, h1, rfl⟩ := Option.map_eq_some_iff.1 ha
    have m1 := hm.1
    have hi : x.part.toNat < 4 := by omega
    refine ⟨by simp [h.1], fun i hi4 => ?_⟩
    rw [getD_set _ _ _ _ (by rw [h.1]; exact hi)]
    split
    · rename_i e
      exact app1_ok (h.2 i hi4) hm (by omega) (e ▸ h1)
    · exact h.2 i hi4
  · cases ha
theorem made_ok : ∀ (l : List En) (j k : Jn), Ok j → made j l = some k → Ok k
  | [], j, k, h, e => by cases e; exact h
  | x :: l, j, k, h, e => by
    rw [made] at e
    cases ha : app j x with
    | none => rw [ha] at e; cases e
    | some m => rw [ha] at e; exact made_ok l m k (app_ok h ha) e
/-- What is told of a partition. -/
def ents (p : Nat) (q : Pt) : List En := (if q.gone = 0 then [] else [⟨3, p, q.gone, 0, q.base, 0, 0⟩]) ++ q.live
def entries (j : Jn) : List En := ents 0 (j.getD 0 default) ++ (ents 1 (j.getD 1 default) ++ (ents 2 (j.getD 2 default) ++ ents 3 (j.getD 3 default)))
theorem made_live (p : Nat) (hp : p < 4) : ∀ (l : List En) (j : Jn) (g b : Int) (l0 : List En), j.length = 4 → j.getD p default = ⟨g, b, l0⟩ → Chain p (endOf ⟨g, b, l0⟩) (last ⟨g, b, l0⟩) l → made j l = some (j.set p ⟨g, b, l0 ++ l⟩)
  | [], j, g, b, l0, hl, hj, _ => by
    rw [made, List.append_nil, ← hj]
    congr 1
    refine List.ext_getElem? fun i => ?_
    rw [List.getElem?_set]
    split
    · rename_i e
      subst e
      simp [List.getD, show p < j.length by omega]
    · rfl
  | x :: l, j, g, b, l0, hl, hj, ⟨a1, a2, a3, a4, a5, a6⟩ => by
    have hx : x.part.toNat = p := by omega
    have ha : app j x = some (j.set p ⟨g, b, l0 ++ [x]⟩) := by
      unfold app
      rw [if_pos a5, hx, hj]
      unfold app1
      rw [if_pos a1, if_pos ⟨a3, a4⟩]
      rfl
    rw [made, ha]
    have := made_live p hp l (j.set p ⟨g, b, l0 ++ [x]⟩) g b (l0 ++ [x]) (by simp [hl]) (by rw [getD_set _ _ _ _ (by omega), if_pos rfl]) (by rw [endOf_app, last_app]; exact a6)
    simp only
    rw [this, List.set_set, List.append_assoc]
    rfl
theorem made_ents (p : Nat) (hp : p < 4) (j : Jn) (q : Pt) (hl : j.length = 4) (hj : j.getD p default = default) (h : Ok1 p q) : made j (ents p q) = some (j.set p q) := by
  obtain ⟨g, b, l⟩ := q
  obtain ⟨hc, hlo⟩ := h
  unfold ents
  simp only at hc hlo ⊢
  by_cases h0 : g = 0
  · have hb : b = 0 := by omega
    subst h0 hb
    rw [if_pos rfl, List.nil_append]
    exact made_live p hp l j 0 0 [] hl hj hc
  · rw [if_neg h0, made_append]
    have hm : May ⟨3, p, g, 0, b, 0, 0⟩ := by
      unfold May
      refine ⟨⟨?_, ?_, ?_, ?_⟩, .inr (.inr ⟨rfl, rfl, ?_, ?_, rfl, rfl⟩)⟩ <;> simp only <;> omega
    have ha : app j ⟨3, p, g, 0, b, 0, 0⟩ = some (j.set p ⟨g, b, []⟩) := by
      unfold app
      rw [if_pos hm]
      simp only [Int.toNat_natCast]
      rw [hj]
      rfl
    rw [made, ha]
    have := made_live p hp l (j.set p ⟨g, b, []⟩) g b [] (by simp [hl]) (by rw [getD_set _ _ _ _ (by omega), if_pos rfl]) hc
    simp only [made, Option.bind_some]
    rw [this, List.set_set, List.nil_append]
/-- What a journal tells makes it again. -/
theorem made_entries {j : Jn} (h : Ok j) : made nil_ (entries j) = some j := by
  obtain ⟨hl, ho⟩ := h
  match j, hl with
  | [q0, q1, q2, q3], _ =>
    have o0 := ho 0 (by omega)
    have o1 := ho 1 (by omega)
    have o2 := ho 2 (by omega)
    have o3 := ho 3 (by omega)
    unfold entries
    rw [made_append, made_ents 0 (by omega) nil_ _ rfl rfl o0]
    simp only [Option.bind_some]
    rw [made_append, made_ents 1 (by omega) _ _ rfl rfl o1]
    simp only [Option.bind_some]
    rw [made_append, made_ents 2 (by omega) _ _ rfl rfl o2]
    simp only [Option.bind_some]
    rw [made_ents 3 (by omega) _ _ rfl rfl o3]
    rfl
/-- Other partitions stay. -/
theorem app_other {j k : Jn} {x : En} (h : app j x = some k) {i : Nat} (hi : (i : Int) ≠ x.part) : k.getD i default = j.getD i default := by
  unfold app at h
  split at h
  · rename_i hm
    obtain ⟨q, _, rfl⟩ := Option.map_eq_some_iff.1 h
    have := hm.1
    rw [List.getD_eq_getElem?_getD, List.getElem?_set_ne (by omega), List.getD_eq_getElem?_getD]
  · cases h
end Jo
end Go.Proofs.Ytljgalleiemaaaa
