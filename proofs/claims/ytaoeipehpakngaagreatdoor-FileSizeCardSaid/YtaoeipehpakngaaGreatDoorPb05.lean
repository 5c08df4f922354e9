/- The plain arithmetic of layer 4: the checksum's register, step by step and byte by byte; that it is linear and loses nothing. No program, no memory. The plain arithmetic of layer 4: the frame of a payload; reading frames; a beginning of frames. No program, no memory. The plain arithmetic of layer and what goes with it. -/
import Derived.Test.YtaoeipehpakngaaGreatDoorPb02
import Derived.Test.YtaoeipehpakngaaGreatDoorPb04
namespace Go.Proofs.YtaoeipehpakngaaGreatDoor
set_option maxRecDepth 20000
namespace Fr
def st (r : Nat) : Nat := if r % 2 = 1 then (r / 2) ^^^ 3988292384 else r / 2
def stN : Nat → Nat → Nat
  | 0, r => r
  | n + 1, r => stN n (st r)
def bt (r c : Nat) : Nat := stN 8 (r ^^^ c)
def reg (r : Nat) (b : List Int) : Nat := b.foldl (fun r c => bt r c.toNat) r
def sum (b : List Int) : Nat := 4294967295 - reg 4294967295 b
def le4 (n : Nat) : List Int := [((n % 256 : Nat) : Int), ((n / 256 % 256 : Nat) : Int), ((n / 65536 % 256 : Nat) : Int), ((n / 16777216 % 256 : Nat) : Int)]
theorem xor_div (a b : Nat) : (a ^^^ b) / 2 = a / 2 ^^^ b / 2 := by
  have := Nat.shiftRight_xor_distrib (a := a) (b := b) (i := 1)
  simpa [Nat.shiftRight_eq_div_pow] using this
theorem xor_mod (a b : Nat) : (a ^^^ b) % 2 = (a + b) % 2 := by
  have h : (a ^^^ b).testBit 0 = (a.testBit 0 ^^ b.testBit 0) := Nat.testBit_xor ..
  simp only [Nat.testBit_zero] at h
  generalize a ^^^ b = c at h ⊢
  rcases Nat.mod_two_eq_zero_or_one a with p | p <;> rcases Nat.mod_two_eq_zero_or_one b with q | q <;> rcases Nat.mod_two_eq_zero_or_one c with z | z <;> simp [p, q, z] at h <;> omega
theorem xor_lt {n a b : Nat} (ha : a < 2 ^ n) (hb : b < 2 ^ n) : a ^^^ b < 2 ^ n := Nat.xor_lt_two_pow ha hb
theorem xor4 (a b c d : Nat) : (a ^^^ b) ^^^ (c ^^^ d) = (a ^^^ c) ^^^ (b ^^^ d) := by
  rw [Nat.xor_assoc, Nat.xor_assoc, ← Nat.xor_assoc b c d, Nat.xor_comm b c, Nat.xor_assoc c b d]
theorem st_xor (a b : Nat) : st (a ^^^ b) = st a ^^^ st b := by
  have hd := xor_div a b
  have hm := xor_mod a b
  unfold st
  by_cases h1 : a % 2 = 1 <;> by_cases h2 : b % 2 = 1
  · rw [if_neg (by omega), if_pos h1, if_pos h2, hd, xor4, Nat.xor_self, Nat.xor_zero]
  · rw [if_pos (by omega), if_pos h1, if_neg h2, hd, Nat.xor_assoc, Nat.xor_assoc, Nat.xor_comm (b / 2)]
  · rw [if_pos (by omega), if_neg h1, if_pos h2, hd, Nat.xor_assoc]
  · rw [if_neg (by omega), if_neg h1, if_neg h2, hd]
theorem stN_xor (n : Nat) : ∀ a b, stN n (a ^^^ b) = stN n a ^^^ stN n b := by
  induction n with
  | zero => intro a b; rfl
  | succ n ih => intro a b; rw [stN, st_xor, ih]; rfl
theorem st_lt {r : Nat} (h : r < 2 ^ 32) : st r < 2 ^ 32 := by
  unfold st
  split
  · exact xor_lt (by omega) (by decide)
  · omega
theorem stN_lt (n : Nat) : ∀ {r : Nat}, r < 2 ^ 32 → stN n r < 2 ^ 32 := by
  induction n with
  | zero => intro r h; exact h
  | succ n ih => intro r h; exact ih (st_lt h)
theorem stN_up (n : Nat) : ∀ k, stN n (k * 2 ^ n) = k := by
  induction n with
  | zero => intro k; simp [stN]
  | succ n ih =>
    intro k
    rw [stN]
    have e : k * 2 ^ (n + 1) = 2 * (k * 2 ^ n) := by rw [Nat.pow_succ]; rw [← Nat.mul_assoc, Nat.mul_comm]
    have : st (k * 2 ^ (n + 1)) = k * 2 ^ n := by
      unfold st
      rw [e, if_neg (by omega)]
      omega
    rw [this, ih]
theorem xor_split (r : Nat) : r = (r / 256 * 256) ^^^ (r % 256) := by
  refine Nat.eq_of_testBit_eq fun i => ?_
  rw [Nat.testBit_xor]
  have e1 : r / 256 * 256 = 2 ^ 8 * (r / 256) := by omega
  have e2 : r % 256 = r % 2 ^ 8 := rfl
  rw [e1, Nat.testBit_two_pow_mul, e2, Nat.testBit_mod_two_pow]
  by_cases hi : 8 ≤ i
  · have : r / 256 = r >>> 8 := by rw [Nat.shiftRight_eq_div_pow]
    rw [this, Nat.testBit_shiftRight]
    simp [hi, show ¬ i < 8 by omega, show 8 + (i - 8) = i by omega]
  · simp [hi, show i < 8 by omega]
theorem bt_tab (r c : Nat) : bt r c = r / 256 ^^^ stN 8 (r % 256 ^^^ c) := by
  unfold bt
  have e : r ^^^ c = (r / 256 * 2 ^ 8) ^^^ (r % 256 ^^^ c) := by
    have h := xor_split r
    rw [← Nat.xor_assoc]
    exact congrArg (· ^^^ c) h
  rw [e, stN_xor, stN_up]
theorem bt_lt {r c : Nat} (hr : r < 2 ^ 32) (hc : c < 2 ^ 32) : bt r c < 2 ^ 32 := stN_lt 8 (xor_lt hr hc)
theorem reg_snoc (r : Nat) (a : List Int) (c : Int) : reg r (a ++ [c]) = bt (reg r a) c.toNat := by simp [reg]
theorem reg_lt : ∀ (b : List Int) {r : Nat}, Nm.Byt b → r < 2 ^ 32 → reg r b < 2 ^ 32
  | [], _, _, h => h
  | c :: b, r, hb, h => by
    have hc := hb c (by simp)
    exact reg_lt b (fun x hx => hb x (by simp [hx])) (bt_lt h (by omega))
theorem ones_xor (x : Nat) (h : x < 2 ^ 32) : x ^^^ 4294967295 = 4294967295 - x := by
  have e : x ^^^ (2 ^ 32 - 1) = ((BitVec.ofNat 32 x) ^^^ (BitVec.allOnes 32)).toNat := by
    rw [BitVec.toNat_xor, BitVec.toNat_allOnes, BitVec.toNat_ofNat, Nat.mod_eq_of_lt h]
  have e2 : (2 ^ 32 - 1 : Nat) = 4294967295 := by decide
  rw [← e2, e, BitVec.xor_allOnes, BitVec.toNat_not, BitVec.toNat_ofNat, Nat.mod_eq_of_lt h]
theorem sum_xor (b : List Int) (hb : Nm.Byt b) : sum b = reg 4294967295 b ^^^ 4294967295 := (ones_xor _ (reg_lt b hb (by decide))).symm
theorem sum_lt (b : List Int) : sum b < 2 ^ 32 := by unfold sum; omega
end Fr
namespace Fr
def frame (p : List Int) : List Int := Nm.vd p.length ++ p ++ le4 (sum p)
def openF (b : List Int) : Option (List Int × Nat) :=
  if (Nm.getL b).2.2 ≠ 0 ∨ 65536 < (Nm.getL b).1 then none
  else if b.length < (Nm.getL b).2.1.toNat + (Nm.getL b).1.toNat + 4 then none
  else if le4 (sum ((b.drop (Nm.getL b).2.1.toNat).take (Nm.getL b).1.toNat)) = (b.drop ((Nm.getL b).2.1.toNat + (Nm.getL b).1.toNat)).take 4 then
    some ((b.drop (Nm.getL b).2.1.toNat).take (Nm.getL b).1.toNat, (Nm.getL b).2.1.toNat + (Nm.getL b).1.toNat + 4)
  else none
def rdF : Nat → List Int → List (List Int) × Nat
  | 0, _ => ([], 0)
  | f + 1, b => match openF b with
    | none => ([], 0)
    | some (p, s) => (p :: (rdF f (b.drop s)).1, s + (rdF f (b.drop s)).2)
def rd (b : List Int) : List (List Int) × Nat := rdF (b.length + 1) b
theorem le4_len (n : Nat) : (le4 n).length = 4 := rfl
theorem le4_byt (n : Nat) : Nm.Byt (le4 n) := by
  intro x hx
  simp only [le4, List.mem_cons, List.not_mem_nil, or_false] at hx
  omega
theorem openF_le {b p : List Int} {s : Nat} (h : openF b = some (p, s)) : 4 ≤ s ∧ s ≤ b.length ∧ p.length + 4 ≤ s ∧ p.length ≤ 65536 := by
  unfold openF at h
  split at h
  · cases h
  · rename_i h0
    split at h
    · cases h
    · rename_i h1
      split at h
      · simp only [Option.some.injEq, Prod.mk.injEq] at h
        obtain ⟨rfl, rfl⟩ := h
        simp only [List.length_take, List.length_drop]
        omega
      · cases h
theorem rdF_more : ∀ (f g : Nat) (b : List Int), b.length < f → b.length < g → rdF f b = rdF g b
  | 0, _, _, h, _ => by omega
  | _ + 1, 0, _, _, h => by omega
  | f + 1, g + 1, b, h1, h2 => by
    rw [rdF, rdF]
    cases ho : openF b with
    | none => rfl
    | some q =>
      obtain ⟨p, s⟩ := q
      have hs := openF_le ho
      have e := rdF_more f g (b.drop s) (by simp; omega) (by simp; omega)
      simp only [e]
theorem rd_none {b : List Int} (h : openF b = none) : rd b = ([], 0) := by
  unfold rd
  rw [rdF, h]
theorem rd_some {b p : List Int} {s : Nat} (h : openF b = some (p, s)) : rd b = (p :: (rd (b.drop s)).1, s + (rd (b.drop s)).2) := by
  have hs := openF_le h
  unfold rd
  rw [rdF, h]
  simp only [rdF_more b.length ((b.drop s).length + 1) (b.drop s) (by simp; omega) (by omega)]
theorem openF_nil : openF [] = none := by
  unfold openF
  rw [if_pos (by left; decide)]
theorem openF_frame (p more : List Int) (hp : p.length ≤ 65536) : openF (frame p ++ more) = some (p, (frame p).length) := by
  have hg : Nm.getL (frame p ++ more) = ((p.length : Int), ((Nm.vd p.length).length : Int), 0) := by
    unfold frame
    rw [List.append_assoc, List.append_assoc]
    unfold Nm.getL
    rw [Nm.gv_vd _ _ (by omega) (by omega)]
    exact if_neg (show ¬ 9223372036854775807 < (p.length : Int) by omega)
  unfold openF
  rw [hg]
  simp only [Int.toNat_natCast]
  rw [if_neg (by simp; omega), if_neg (by simp [frame, le4_len]; omega)]
  have e0 : frame p ++ more = Nm.vd p.length ++ (p ++ (le4 (sum p) ++ more)) := by simp [frame]
  have e1 : ((frame p ++ more).drop (Nm.vd p.length).length).take p.length = p := by
    rw [e0, List.drop_left, List.take_left]
  have e2 : ((frame p ++ more).drop ((Nm.vd p.length).length + p.length)).take 4 = le4 (sum p) := by
    rw [e0, ← List.drop_drop, List.drop_left, List.drop_left]
    exact List.take_left' (le4_len _)
  rw [e1, e2, if_pos rfl]
  simp only [frame, List.length_append, le4_len]
theorem rd_frame (p more : List Int) (hp : p.length ≤ 65536) : rd (frame p ++ more) = (p :: (rd more).1, (frame p).length + (rd more).2) := by
  rw [rd_some (openF_frame p more hp), List.drop_left]
theorem openF_cut (p : List Int) (hp : p.length ≤ 65536) (k : Nat) (hk : k < (frame p).length) : openF ((frame p).take k) = none := by
  have hv := Nm.gv_vd (p.length : Int) [] (by omega) (by omega)
  rw [List.append_nil] at hv
  have hB : Nm.Byt (Nm.vd (p.length : Int)) := Nm.vd_byt _ (by omega) (by omega)
  obtain ⟨j, u, h1, _, h3, _, _, _, h4, h5⟩ := Nm.gv_only _ hB (by rw [hv])
  have hj : j = (Nm.vd (p.length : Int)).length := by
    rw [hv] at h1
    simp only [Prod.mk.injEq] at h1
    omega
  rcases Nat.lt_or_ge k j with q | q
  · have e : (frame p).take k = (Nm.vd (p.length : Int)).take k := by
      unfold frame
      rw [List.append_assoc, List.take_append_of_le_length (by omega)]
    unfold openF
    rw [e]
    refine if_pos (.inl ?_)
    unfold Nm.getL
    rw [h5 k q]
    decide
  · have e : (frame p).take k = Nm.vd (p.length : Int) ++ (p ++ le4 (sum p)).take (k - j) := by
      unfold frame
      rw [List.append_assoc, List.take_append, List.take_of_length_le (by omega), ← hj]
    have hg : Nm.getL ((frame p).take k) = ((p.length : Int), ((Nm.vd p.length).length : Int), 0) := by
      rw [e]
      unfold Nm.getL
      rw [Nm.gv_vd _ _ (by omega) (by omega)]
      exact if_neg (show ¬ 9223372036854775807 < (p.length : Int) by omega)
    unfold openF
    rw [hg]
    simp only [Int.toNat_natCast]
    rw [if_neg (by simp; omega), if_pos]
    have : (frame p).length = (Nm.vd (p.length : Int)).length + p.length + 4 := by simp [frame, le4_len]; omega
    rw [List.length_take]
    omega
end Fr
namespace Fr
def cat (l : List (List Int)) : List Int := l.flatMap frame
def ed (l : List (List Int)) (k : Nat) : Nat := (cat (l.take k)).length
def Fine (l : List (List Int)) : Prop := ∀ p, p ∈ l → p.length ≤ 65536 ∧ Nm.Byt p
theorem cat_nil : cat [] = [] := rfl
theorem cat_cons (p : List Int) (l : List (List Int)) : cat (p :: l) = frame p ++ cat l := rfl
theorem cat_app (l m : List (List Int)) : cat (l ++ m) = cat l ++ cat m := by simp [cat]
theorem cat_take (l : List (List Int)) (k : Nat) (hk : k < l.length) : cat (l.take (k + 1)) = cat (l.take k) ++ frame (l.getD k []) := by
  rw [List.take_succ_eq_append_getElem hk, cat_app]
  simp [cat, List.getD, hk]
theorem ed_zero (l : List (List Int)) : ed l 0 = 0 := rfl
theorem ed_all (l : List (List Int)) : ed l l.length = (cat l).length := by rw [ed, List.take_length]
theorem frame_byt {p : List Int} (h : p.length ≤ 65536) (hb : Nm.Byt p) : Nm.Byt (frame p) := by
  intro x hx
  rcases List.mem_append.1 hx with q | q
  · rcases List.mem_append.1 q with q | q
    · exact Nm.vd_byt _ (by omega) (by omega) x q
    · exact hb x q
  · exact le4_byt _ x q
theorem cat_byt {l : List (List Int)} (h : Fine l) : Nm.Byt (cat l) := by
  intro x hx
  obtain ⟨p, hp, hx⟩ := List.mem_flatMap.1 hx
  exact frame_byt (h p hp).1 (h p hp).2 x hx
theorem frame_len (p : List Int) : (frame p).length = (Nm.vd (p.length : Int)).length + p.length + 4 := by
  simp [frame, le4_len]; omega
theorem cat_len {l : List (List Int)} {n : Nat} (h : ∀ p, p ∈ l → p.length ≤ n) : (cat l).length ≤ l.length * (n + 14) := by
  induction l with
  | nil => simp [cat]
  | cons p l ih =>
    have h1 := h p (by simp)
    have h2 := ih (fun q hq => h q (by simp [hq]))
    have h3 := (Nm.vd_len (p.length : Int)).2
    rw [cat_cons, List.length_append, frame_len, List.length_cons, Nat.succ_mul]
    omega
theorem rd_nil : rd [] = ([], 0) := rd_none openF_nil
theorem rd_cat (l : List (List Int)) : ∀ more : List Int, Fine l → rd (cat l ++ more) = (l ++ (rd more).1, (cat l).length + (rd more).2) := by
  induction l with
  | nil => intro more _; rw [cat_nil, List.nil_append, List.nil_append, List.length_nil, Nat.zero_add]
  | cons p l ih =>
    intro more h
    rw [cat_cons, List.append_assoc, rd_frame p _ (h p (by simp)).1, ih more (fun q hq => h q (by simp [hq])), List.length_append]
    simp only [List.cons_append, Nat.add_assoc]
theorem rd_cut (l : List (List Int)) : ∀ a q : Nat, Fine l → q ≤ l.length → ed l q ≤ a → (q < l.length → a < ed l (q + 1)) → rd ((cat l).take a) = (l.take q, ed l q) := by
  induction l with
  | nil =>
    intro a q _ hq _ _
    obtain rfl : q = 0 := by simpa using hq
    rw [cat_nil, List.take_nil, rd_nil, List.take_nil, ed_zero]
  | cons p l ih =>
    intro a q h hq h1 h2
    have hp := (h p (by simp)).1
    cases q with
    | zero =>
      have h2 := h2 (by simp)
      have e1 : ed (p :: l) 1 = (frame p).length := by
        rw [ed, List.take_succ_cons, List.take_zero, cat_cons, cat_nil, List.append_nil]
      rw [e1] at h2
      rw [cat_cons, List.take_append_of_le_length (by omega), rd_none (openF_cut p hp a h2), List.take_zero, ed_zero]
    | succ q =>
      have e : ∀ j, ed (p :: l) (j + 1) = (frame p).length + ed l j := fun j => by
        rw [ed, List.take_succ_cons, cat_cons, List.length_append]; rfl
      rw [e] at h1
      rw [cat_cons, List.take_append, List.take_of_length_le (by omega), rd_frame p _ hp]
      rw [ih (a - (frame p).length) q (fun r hr => h r (by simp [hr])) (by simpa using hq) (by omega) (fun hl => by
        have := h2 (by simpa using hl)
        rw [e] at this
        omega)]
      rw [e, List.take_succ_cons]
end Fr
namespace Fi
open Va (Vl May)
open Sc (Sch tr tr_yes tr_no)
open Se (Seg Ok)
open Nm (vd zz)
theorem vd_pre {u v : Int} {a b : List Int} (u0 : 0 ≤ u) (u1 : u ≤ 18446744073709551615) (v0 : 0 ≤ v) (v1 : v ≤ 18446744073709551615) (h : vd u ++ a = vd v ++ b) : u = v ∧ a = b := by
  have e := congrArg Nm.gv h
  rw [Nm.gv_vd u a u0 u1, Nm.gv_vd v b v0 v1] at e
  have e1 : u = v := congrArg Prod.fst e
  subst e1
  exact ⟨rfl, List.append_cancel_left h⟩
theorem zz_pre {x y : Int} {a b : List Int} (hx : Rn.Fit x) (hy : Rn.Fit y) (h : vd (zz x) ++ a = vd (zz y) ++ b) : x = y ∧ a = b := by
  obtain ⟨e, e2⟩ := vd_pre (Nm.zz_lo x) (Nm.zz_hi x hx.1 hx.2) (Nm.zz_lo y) (Nm.zz_hi y hy.1 hy.2) h
  have := congrArg Nm.unz e
  rw [Nm.unz_zz, Nm.unz_zz] at this
  exact ⟨this, e2⟩
theorem plain_inj : ∀ {l m : List Int} {a b : List Int}, l.length = m.length → Rn.Fits l → Rn.Fits m → Rn.plain l ++ a = Rn.plain m ++ b → l = m ∧ a = b
  | [], [], _, _, _, _, _, h => ⟨rfl, h⟩
  | x :: l, y :: m, a, b, hl, h1, h2, h => by
    have h' : vd (zz x) ++ (Rn.plain l ++ a) = vd (zz y) ++ (Rn.plain m ++ b) := by
      have : ∀ (z : Int) (k c : List Int), Rn.plain (z :: k) ++ c = vd (zz z) ++ (Rn.plain k ++ c) := fun z k c => by simp [Rn.plain]
      rw [← this, ← this]
      exact h
    obtain ⟨e1, e2⟩ := zz_pre (h1 x (by simp)) (h2 y (by simp)) h'
    obtain ⟨e3, e4⟩ := plain_inj (by simpa using hl) (fun z hz => h1 z (by simp [hz])) (fun z hz => h2 z (by simp [hz])) e2
    exact ⟨by rw [e1, e3], e4⟩
theorem runB_inj : ∀ {r s : Rn.Rs}, Rn.FitR r → Rn.FitR s → Rn.runB r = Rn.runB s → r = s
  | [], [], _, _, _ => rfl
  | [], p :: s, _, _, h => by
    have := congrArg List.length h
    have e : Rn.runB (p :: s) = (vd (zz p.1) ++ vd p.2) ++ Rn.runB s := by simp [Rn.runB]
    rw [e, List.length_append, List.length_append] at this
    have := (Nm.vd_len (zz p.1)).1
    have e0 : (Rn.runB []).length = 0 := rfl
    omega
  | p :: s, [], _, _, h => by
    have := congrArg List.length h
    have e : Rn.runB (p :: s) = (vd (zz p.1) ++ vd p.2) ++ Rn.runB s := by simp [Rn.runB]
    rw [e, List.length_append, List.length_append] at this
    have := (Nm.vd_len (zz p.1)).1
    have e0 : (Rn.runB []).length = 0 := rfl
    omega
  | p :: r, q :: s, h1, h2, h => by
    have e : ∀ (p : Int × Int) (s : Rn.Rs), Rn.runB (p :: s) = vd (zz p.1) ++ (vd p.2 ++ Rn.runB s) := fun p s => by simp [Rn.runB]
    rw [e, e] at h
    obtain ⟨p0, p1, p2⟩ := h1 p (by simp)
    obtain ⟨q0, q1, q2⟩ := h2 q (by simp)
    obtain ⟨e1, h⟩ := zz_pre p0 q0 h
    obtain ⟨e2, h⟩ := vd_pre (by omega) (by omega) (by omega) (by omega) h
    have e3 := runB_inj (fun z hz => h1 z (by simp [hz])) (fun z hz => h2 z (by simp [hz])) h
    rw [e3, show p = q from Prod.ext e1 e2]
theorem bi3 (l : List Int) : ∃ k, Rn.bi l 3 = k ∧ k ≤ 2 := ⟨_, rfl, by
  have h := Rn.bi_le l 2
  rw [show 2 + 1 = 3 from rfl] at h
  exact h⟩
theorem body_inj {l m : List Int} (hl : l.length ≤ 4096) (hm : m.length ≤ 4096) (h1 : Rn.Fits l) (h2 : Rn.Fits m) (hn : l.length = m.length) : ∀ k, k ≤ 2 → Rn.body l k = Rn.body m k → l = m
  | 0, _, h => (plain_inj (a := []) (b := []) hn h1 h2 (congrArg (· ++ []) h)).1
  | 1, _, h => by
    have e := runB_inj (Rn.runs_fit h1 hl) (Rn.runs_fit h2 hm) h
    have a := Rn.flat_runs l
    rw [e, Rn.flat_runs] at a
    exact a.symm
  | 2, _, h => by
    have e := (plain_inj (a := []) (b := []) (by rw [Rn.deltas_len, Rn.deltas_len]; exact hn) (Rn.deltas_fits l) (Rn.deltas_fits m) (congrArg (· ++ []) h)).1
    have a := Rn.sums_deltas l h1
    rw [e, Rn.sums_deltas m h2] at a
    exact a.symm
theorem enc_inj {l m : List Int} (hl : l.length ≤ 4096) (hm : m.length ≤ 4096) (h1 : Rn.Fits l) (h2 : Rn.Fits m) (h : Rn.enc l = Rn.enc m) : l = m := by
  obtain ⟨k, ek, hk⟩ := bi3 l
  obtain ⟨k', ek', _⟩ := bi3 m
  unfold Rn.enc at h
  rw [ek, ek'] at h
  unfold Rn.block at h
  rw [List.cons_append, List.cons_append] at h
  obtain ⟨e, h⟩ := List.cons.inj h
  obtain rfl : k = k' := by omega
  obtain ⟨hn, h⟩ := vd_pre (by omega) (by omega) (by omega) (by omega) h
  exact body_inj hl hm h1 h2 (by omega) k hk h
def Vok (v : Vl) : Prop := May v ∧ Rn.Fit v.i
theorem put_pre {v u : Vl} {a b : List Int} (hv : Vok v) (hu : Vok u) (h : v.kind :: (Va.put v ++ a) = u.kind :: (Va.put u ++ b)) : v = u ∧ a = b := by
  have e := congrArg Va.any h
  rw [Va.any_put hv.1 hv.2.1 hv.2.2 a, Va.any_put hu.1 hu.2.1 hu.2.2 b] at e
  have e1 : v = u := congrArg Prod.fst e
  subst e1
  exact ⟨rfl, List.append_cancel_left (List.cons.inj h).2⟩
theorem putD_inj : ∀ {D E : List Vl} {a b : List Int}, D.length = E.length → (∀ v ∈ D, Vok v) → (∀ v ∈ E, Vok v) → Co.putD D ++ a = Co.putD E ++ b → D = E ∧ a = b
  | [], [], _, _, _, _, _, h => ⟨rfl, h⟩
  | x :: l, y :: m, a, b, hl, h1, h2, h => by
    have h' : x.kind :: (Va.put x ++ (Co.putD l ++ a)) = y.kind :: (Va.put y ++ (Co.putD m ++ b)) := by
      have : ∀ (z : Vl) (k : List Vl) (c : List Int), Co.putD (z :: k) ++ c = z.kind :: (Va.put z ++ (Co.putD k ++ c)) := fun z k c => by simp [Co.putD]
      rw [← this, ← this]
      exact h
    obtain ⟨e1, e2⟩ := put_pre (h1 x (by simp)) (h2 y (by simp)) h'
    obtain ⟨e3, e4⟩ := putD_inj (by simpa using hl) (fun z hz => h1 z (by simp [hz])) (fun z hz => h2 z (by simp [hz])) e2
    exact ⟨by rw [e1, e3], e4⟩
structure Cok (C : Co.Col) : Prop where
  n0 : 0 ≤ C.n
  n1 : C.n ≤ 4096
  dl : C.dict.length ≤ 1000000
  vs : ∀ v ∈ C.dict, Vok v
theorem puts_inj {C D : Co.Col} (hC : Cok C) (hD : Cok D) (h : Co.puts C = Co.puts D) : C = D := by
  unfold Co.puts at h
  simp only [List.append_assoc] at h
  have c0 := hC.n0
  have c1 := hC.n1
  have c2 := hC.dl
  have d0 := hD.n0
  have d1 := hD.n1
  have d2 := hD.dl
  obtain ⟨e1, h⟩ := vd_pre (by omega) (by omega) (by omega) (by omega) h
  obtain ⟨e2, h⟩ := vd_pre (by omega) (by omega) (by omega) (by omega) h
  obtain ⟨e3, e4⟩ := putD_inj (by omega) hC.vs hD.vs h
  exact Co.Col.ext' e1 e3 e4
def head (x : Seg) : List Int := vd x.part ++ (vd x.id ++ (vd x.st ++ (vd x.en ++ vd (x.cols.length : Int))))
def pays (x : Seg) : List (List Int) := head x :: Rn.enc x.offs :: x.cols.map Co.puts
def fileB (x : Seg) : List Int := Fr.cat (pays x)
theorem pays_len (x : Seg) : (pays x).length = 2 + x.cols.length := by simp [pays]; omega
def Room (x : Seg) : Prop := ∀ p ∈ pays x, p.length ≤ 65536
structure Nice (x : Seg) : Prop where
  head : Se.Head x
  few : x.cols.length ≤ 1000000
  len : x.offs.length ≤ 4096
  fit : Rn.Fits x.offs
  cols : ∀ c ∈ x.cols, Cok c
theorem head_pre {x y : Seg} {a b : List Int} (hx : Nice x) (hy : Nice y) (h : head x ++ a = head y ++ b) : (x.part = y.part ∧ x.id = y.id ∧ x.st = y.st ∧ x.en = y.en ∧ x.cols.length = y.cols.length) ∧ a = b := by
  unfold head at h
  simp only [List.append_assoc] at h
  obtain ⟨x1, x2, x3, x4, x5, x6, x7⟩ := hx.head
  obtain ⟨y1, y2, y3, y4, y5, y6, y7⟩ := hy.head
  have x8 := hx.few
  have y8 := hy.few
  obtain ⟨e1, h⟩ := vd_pre (by omega) (by omega) (by omega) (by omega) h
  obtain ⟨e2, h⟩ := vd_pre (by omega) (by omega) (by omega) (by omega) h
  obtain ⟨e3, h⟩ := vd_pre (by omega) (by omega) (by omega) (by omega) h
  obtain ⟨e4, h⟩ := vd_pre (by omega) (by omega) (by omega) (by omega) h
  obtain ⟨e5, h⟩ := vd_pre (by omega) (by omega) (by omega) (by omega) h
  exact ⟨⟨e1, e2, e3, e4, by omega⟩, h⟩
theorem map_puts_inj : ∀ {l m : List Co.Col}, (∀ c ∈ l, Cok c) → (∀ c ∈ m, Cok c) → l.map Co.puts = m.map Co.puts → l = m
  | [], [], _, _, _ => rfl
  | [], _ :: _, _, _, h => by simp at h
  | _ :: _, [], _, _, h => by simp at h
  | x :: l, y :: m, h1, h2, h => by
    rw [List.map_cons, List.map_cons] at h
    obtain ⟨e, h⟩ := List.cons.inj h
    rw [puts_inj (h1 x (by simp)) (h2 y (by simp)) e, map_puts_inj (fun c hc => h1 c (by simp [hc])) (fun c hc => h2 c (by simp [hc])) h]
theorem pays_inj {x y : Seg} (hx : Nice x) (hy : Nice y) (h : pays x = pays y) : x = y := by
  unfold pays at h
  obtain ⟨e1, h⟩ := List.cons.inj h
  obtain ⟨e2, e3⟩ := List.cons.inj h
  obtain ⟨⟨a, b, c, d, _⟩, _⟩ := head_pre (a := []) (b := []) hx hy (by simpa using e1)
  exact Seg.ext' a b c d (enc_inj hx.len hy.len hx.fit hy.fit e2) (map_puts_inj hx.cols hy.cols e3)
theorem head_byt {x : Seg} (hx : Nice x) : Nm.Byt (head x) := by
  obtain ⟨x1, x2, x3, x4, x5, x6, x7⟩ := hx.head
  have x8 := hx.few
  unfold head
  exact Rn.byt_app (Nm.vd_byt _ (by omega) (by omega)) (Rn.byt_app (Nm.vd_byt _ (by omega) (by omega)) (Rn.byt_app (Nm.vd_byt _ (by omega) (by omega)) (Rn.byt_app (Nm.vd_byt _ (by omega) (by omega)) (Nm.vd_byt _ (by omega) (by omega)))))
def Byts (x : Seg) : Prop := ∀ c ∈ x.cols, Nm.Byt (Co.puts c)
theorem enc_byt {l : List Int} (hl : l.length ≤ 4096) (h : Rn.Fits l) : Nm.Byt (Rn.enc l) := by
  obtain ⟨k, ek, hk⟩ := bi3 l
  unfold Rn.enc
  rw [ek]
  exact Rn.block_byt h hl _ (by omega)
theorem pays_fine {x : Seg} (hx : Nice x) (hb : Byts x) (hr : Room x) : Fr.Fine (pays x) := fun p hp => ⟨hr p hp, by
  unfold pays at hp
  rcases List.mem_cons.1 hp with rfl | hp
  · exact head_byt hx
  · rcases List.mem_cons.1 hp with rfl | hp
    · exact enc_byt hx.len hx.fit
    · obtain ⟨c, hc, rfl⟩ := List.mem_map.1 hp
      exact hb c hc⟩
theorem rd_file {x : Seg} (hx : Fr.Fine (pays x)) : Fr.rd (fileB x) = (pays x, (fileB x).length) := by
  have := Fr.rd_cat (pays x) [] hx
  rw [Fr.rd_nil] at this
  simpa [fileB] using this
theorem file_inj {x y : Seg} (hx : Nice x) (hy : Nice y) (fx : Fr.Fine (pays x)) (fy : Fr.Fine (pays y)) (h : fileB x = fileB y) : x = y := by
  have e := rd_file fx
  rw [h, rd_file fy] at e
  exact pays_inj hx hy (congrArg Prod.fst e).symm
end Fi
namespace Se
open Va (Vl May ord null)
open Sc (Sch MayS FitS tr tr_yes tr_no tr_iff)
open Co (values build)
theorem fit_may {s : Sch} {r : List Vl} (h : FitS s r) : r.length = s.cols.length ∧ ∀ v ∈ r, May v := by
  have h3 := (Sc.fits_get _ _).1 h.2
  refine ⟨h3.1, fun v hv => ?_⟩
  obtain ⟨j, hj, rfl⟩ := List.getElem_of_mem hv
  have := (h3.2 j (by omega)).1.1
  simpa [List.getD, List.getElem?_eq_getElem hj] using this
section
variable {s : Sch} {x : Seg} {l : List (List Vl)} {offs : List Int}
theorem get_mem {l : List (List Vl)} {i : Nat} (h : i < l.length) : l.getD i [] ∈ l := by
  rw [List.getD_eq_getElem?_getD, List.getElem?_eq_getElem h]
  exact List.getElem_mem h
theorem arr_lt {i : Nat} (h : i < l.length) : (arr s l).getD i 0 < l.length := by
  have h' : i < (arr s l).length := by rw [arr_len]; exact h
  refine (arr_mem s l).1 ?_
  rw [List.getD_eq_getElem?_getD, List.getElem?_eq_getElem h']
  exact List.getElem_mem h'
theorem pick_ok (hf : Fit s l) (k : Nat) (hk : k < s.cols.length) : ∀ v ∈ pick l (arr s l) k, May v := fun v hv => by
  obtain ⟨y, hy, rfl⟩ := List.mem_map.1 hv
  have hm := get_mem ((arr_mem s l).1 hy)
  obtain ⟨h1, h2⟩ := fit_may (hf.2 _ hm)
  refine h2 _ ?_
  rw [List.getD_eq_getElem?_getD (i := k), List.getElem?_eq_getElem (by omega)]
  exact List.getElem_mem _
theorem plen (k : Nat) : (pick l (arr s l) k).length = l.length := by simp [pick, arr_len]
theorem sealed_offs_len : (sealed s x l offs).offs.length = l.length := by simp [sealed, offsOf, arr_len]
theorem sealed_col {c : Co.Col} (h : c ∈ (sealed s x l offs).cols) : ∃ k, k < s.cols.length ∧ c = (build (pick l (arr s l) k)).1 := by
  obtain ⟨k, hk, rfl⟩ := List.mem_map.1 h
  exact ⟨k, List.mem_range.1 hk, rfl⟩
theorem sealed_offs {i : Nat} (h : i < l.length) : (sealed s x l offs).offs.getD i 0 = offs.getD ((arr s l).getD i 0) 0 := by
  have h' : i < (arr s l).length := by rw [arr_len]; exact h
  simp only [sealed, offsOf]
  rw [List.getD_eq_getElem?_getD, List.getElem?_map, List.getElem?_eq_getElem h', List.getD_eq_getElem?_getD (l := arr s l), List.getElem?_eq_getElem h']
  rfl
theorem sealed_row (hf : Fit s l) (hl : l.length ≤ 4096) {i : Nat} (h : i < l.length) : row (sealed s x l offs) (i : Int) = l.getD ((arr s l).getD i 0) [] := by
  have hv : ∀ k, k < s.cols.length → values (build (pick l (arr s l) k)).1 = pick l (arr s l) k := fun k hk => Co.values_build (by rw [plen]; exact hl) (pick_ok hf k hk)
  have hhas : Has (sealed s x l offs) (i : Int) := ⟨by omega, by rw [sealed_offs_len]; omega, fun c hc => by
    obtain ⟨k, hk, rfl⟩ := sealed_col hc
    rw [hv k hk, plen]
    omega⟩
  rw [row_yes hhas, Int.toNat_natCast]
  have hm := get_mem (arr_lt (s := s) h)
  obtain ⟨h1, -⟩ := fit_may (hf.2 _ hm)
  show ((List.range s.cols.length).map fun k => (build (pick l (arr s l) k)).1).map _ = _
  rw [List.map_map]
  refine List.ext_getElem (by rw [List.length_map, List.length_range, h1]) fun k q1 q2 => ?_
  have hk : k < s.cols.length := by simpa using q1
  have h' : i < (arr s l).length := by rw [arr_len]; exact h
  simp only [List.getElem_map, List.getElem_range, Function.comp]
  rw [hv k hk]
  have e : (pick l (arr s l) k).getD i default = (l.getD ((arr s l).getD i 0) []).getD k default := by
    unfold pick
    rw [List.getD_eq_getElem?_getD, List.getElem?_map, List.getElem?_eq_getElem h', List.getD_eq_getElem?_getD (l := arr s l), List.getElem?_eq_getElem h']
    rfl
  rw [e, List.getD_eq_getElem?_getD, List.getElem?_eq_getElem q2]
  rfl
theorem sealed_rows (hf : Fit s l) (hl : l.length ≤ 4096) : rows (sealed s x l offs) = (arr s l).map fun i => l.getD i [] := by
  refine List.ext_getElem (by rw [rows_len, sealed_offs_len, List.length_map, arr_len]) fun i q1 q2 => ?_
  have hi : i < l.length := by rw [rows_len, sealed_offs_len] at q1; exact q1
  have h' : i < (arr s l).length := by rw [arr_len]; exact hi
  have := rows_get (x := sealed s x l offs) (i := i) (by rw [sealed_offs_len]; exact hi)
  rw [sealed_row hf hl hi, List.getD_eq_getElem?_getD, List.getElem?_eq_getElem q1] at this
  rw [List.getElem_map, show (rows (sealed s x l offs))[i] = _ from this, List.getD_eq_getElem?_getD (l := arr s l), List.getElem?_eq_getElem h']
  rfl
theorem sealed_ok (h : Arg s x l offs) (hl : l.length ≤ 4096) : Ok s (sealed s x l offs) := by
  obtain ⟨hf, hh, ho, hr⟩ := h
  obtain ⟨r1, r2⟩ := rise_iff.1 hr
  have inj : ∀ i j, i < j → j < l.length → offs.getD i 0 < offs.getD j 0 := fun i j hij hj => by
    have hi' : i < offs.length := by omega
    have hj' : j < offs.length := by omega
    have := List.pairwise_iff_getElem.1 r1 i j hi' hj' hij
    simpa [List.getD, hi', hj'] using this
  have nd : ∀ i j, i < j → j < l.length → (arr s l).getD i 0 ≠ (arr s l).getD j 0 := fun i j hij hj => by
    have hi' : i < (arr s l).length := by rw [arr_len]; omega
    have hj' : j < (arr s l).length := by rw [arr_len]; omega
    have := List.pairwise_iff_getElem.1 (arr_nd s l) i j hi' hj' hij
    simpa [List.getD, hi', hj'] using this
  refine ⟨hh, by simp [sealed, colsOf_len], by rw [sealed_offs_len]; exact hl, fun c hc => ?_, ?_, fun o ho' => ?_, ?_, fun i h1 h2 => ?_⟩
  · obtain ⟨k, hk, rfl⟩ := sealed_col hc
    refine ⟨?_, Co.valid_build (by rw [plen]; exact hl) (pick_ok hf k hk)⟩
    rw [Co.build_ok (by rw [plen]; exact hl) (pick_ok hf k hk), sealed_offs_len]
    show ((pick l (arr s l) k).length : Int) = _
    rw [plen]
  · refine List.pairwise_iff_getElem.2 fun i j hi hj hij => ?_
    have e1 := sealed_offs (s := s) (x := x) (offs := offs) (i := i) (by rw [sealed_offs_len] at hi; exact hi)
    have e2 := sealed_offs (s := s) (x := x) (offs := offs) (i := j) (by rw [sealed_offs_len] at hj; exact hj)
    rw [List.getD_eq_getElem?_getD, List.getElem?_eq_getElem hi] at e1
    rw [List.getD_eq_getElem?_getD, List.getElem?_eq_getElem hj] at e2
    rw [show (sealed s x l offs).offs[i] = _ from e1, show (sealed s x l offs).offs[j] = _ from e2]
    rw [sealed_offs_len] at hi hj
    have n := nd i j hij hj
    have a1 := arr_lt (s := s) hi
    have a2 := arr_lt (s := s) hj
    rcases Nat.lt_or_gt_of_ne n with z | z
    · have := inj _ _ z a2; omega
    · have := inj _ _ z a1; omega
  · obtain ⟨i, hi, rfl⟩ := List.getElem_of_mem ho'
    have e1 := sealed_offs (s := s) (x := x) (offs := offs) (i := i) (by rw [sealed_offs_len] at hi; exact hi)
    rw [List.getD_eq_getElem?_getD, List.getElem?_eq_getElem hi] at e1
    rw [show (sealed s x l offs).offs[i] = _ from e1]
    rw [sealed_offs_len] at hi
    have a1 := arr_lt (s := s) hi
    refine r2 _ ?_
    rw [List.getD_eq_getElem?_getD, List.getElem?_eq_getElem (by omega)]
    exact List.getElem_mem _
  · refine ⟨hf.1, fun r hr => ?_⟩
    rw [sealed_rows hf hl] at hr
    obtain ⟨i, hi, rfl⟩ := List.mem_map.1 hr
    exact hf.2 _ (get_mem ((arr_mem s l).1 hi))
  · rw [sealed_offs_len] at h2
    have g1 := rows_get (x := sealed s x l offs) (i := i - 1) (by rw [sealed_offs_len]; omega)
    have g2 := rows_get (x := sealed s x l offs) (i := i) (by rw [sealed_offs_len]; omega)
    rw [sealed_row hf hl (by omega)] at g1
    rw [sealed_row hf hl h2] at g2
    unfold Nb cf
    rw [g1, g2, sealed_offs (by omega), sealed_offs h2]
    have a2 := arr_lt (s := s) h2
    have hle := Ssm.so_get (wk s l) (arr_so s l) (i := i - 1) (j := i) (by omega) (by rw [arr_len]; exact h2)
    have n := nd (i - 1) i (by omega) h2
    rcases hle with z | ⟨z, z2⟩
    · exact .inl z
    · exact .inr ⟨z, inj _ _ (by omega) a2⟩
end
end Se
end Go.Proofs.YtaoeipehpakngaaGreatDoor
