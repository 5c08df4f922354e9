/- The plain arithmetic of layer 1: the digits of a number to the base 128, reading them back, the fold of signed numbers. No program, no memory. Reading what was written as a number, whatever stands behind; bytes. The bytes of a value in plain words, and the value that bytes begin with. No program, no memory. -/
import Derived.Laws.BytesArg
import Derived.Test.YtoibpbnebcoafaaGreatPk02
import Derived.Test.YtoibpbnebcoafaaGreatPk03
namespace Go.Proofs.YtoibpbnebcoafaaGreat
set_option maxRecDepth 20000
namespace Nm

/-- The digits of u, least first, 128 added to all but the last; at most f + 1 of them. -/
def vdF : Nat → Int → List Int
  | 0, u => [u]
  | f + 1, u => if u < 128 then [u] else (u % 128 + 128) :: vdF f (u / 128)
/-- The digits of a number below 2^64. -/
def vd (u : Int) : List Int := vdF 9 u
/-- The fold of a signed number. -/
def zz (n : Int) : Int := if n < 0 then -2 * n - 1 else 2 * n
/-- Its way back. -/
def unz (u : Int) : Int := if u % 2 = 1 then -(u / 2) - 1 else u / 2
/-- Reading digits: the place, what was read so far, what is left. Answers the number, how many digits, the error. -/
def gvF : Nat → Int → List Int → Int × Int × Int
  | _, _, [] => (0, 0, 6)
  | i, acc, c :: r =>
    if i = 9 ∧ 1 < c then (0, 0, 7)
    else if 128 ≤ c then gvF (i + 1) (acc + c % 128 * 128 ^ i) r
    else if c = 0 ∧ 0 < i then (0, 0, 7)
    else (acc + c * 128 ^ i, i + 1, 0)
def gv (b : List Int) : Int × Int × Int := gvF 0 0 b
/-- What Get answers. -/
def getI (b : List Int) : Int × Int × Int := if (gv b).2.2 = 0 then (unz (gv b).1, (gv b).2.1, 0) else (0, 0, (gv b).2.2)
/-- What GetLen answers. -/
def getL (b : List Int) : Int × Int × Int := if (gv b).2.2 = 0 then (if 9223372036854775807 < (gv b).1 then (0, 0, 7) else ((gv b).1, (gv b).2.1, 0)) else (0, 0, (gv b).2.2)
/-- Every number of the list is a byte. -/
def Byt (b : List Int) : Prop := ∀ x, x ∈ b → 0 ≤ x ∧ x ≤ 255

theorem zz_lo (n : Int) : 0 ≤ zz n := by unfold zz; split <;> omega
theorem zz_hi (n : Int) (h1 : -9223372036854775808 ≤ n) (h2 : n ≤ 9223372036854775807) : zz n ≤ 18446744073709551615 := by unfold zz; split <;> omega
theorem unz_zz (n : Int) : unz (zz n) = n := by
  unfold unz zz
  by_cases h : n < 0
  · rw [if_pos h, if_pos (by omega)]; omega
  · rw [if_neg h, if_neg (by omega)]; omega
theorem zz_unz (u : Int) (h : 0 ≤ u) : zz (unz u) = u := by
  unfold unz zz
  by_cases h : u % 2 = 1
  · rw [if_pos h, if_pos (by omega)]; omega
  · rw [if_neg h, if_neg (by omega)]; omega
theorem unz_bd (u : Int) (h : 0 ≤ u) (h' : u ≤ 18446744073709551615) : -9223372036854775808 ≤ unz u ∧ unz u ≤ 9223372036854775807 := by
  unfold unz; split <;> omega

theorem vdF_lo (f : Nat) (u : Int) (h : u < 128) : vdF f u = [u] := by
  cases f with
  | zero => rfl
  | succ f => exact if_pos h
theorem vdF_hi (f : Nat) (u : Int) (h : ¬ u < 128) : vdF (f + 1) u = (u % 128 + 128) :: vdF f (u / 128) := if_neg h
theorem pow_up {a b : Nat} (h : a ≤ b) : (128 : Int) ^ a ≤ 128 ^ b := by
  induction b with
  | zero => obtain rfl : a = 0 := by omega
            exact Int.le_refl _
  | succ b ih =>
    rcases Nat.lt_or_ge b a with q | q
    · obtain rfl : a = b + 1 := by omega
      exact Int.le_refl _
    · have := ih q
      have hp : (0 : Int) < 128 ^ b := Int.pow_pos (by omega)
      rw [Int.pow_succ]; omega
theorem vdF_len (f : Nat) : ∀ u : Int, 1 ≤ (vdF f u).length ∧ (vdF f u).length ≤ f + 1 := by
  induction f with
  | zero => intro u; simp [vdF]
  | succ f ih =>
    intro u
    rw [vdF]
    split
    · simp
    · have := ih (u / 128); simp only [List.length_cons]; omega
theorem vd_len (u : Int) : 1 ≤ (vd u).length ∧ (vd u).length ≤ 10 := vdF_len 9 u
theorem vdF_byt (f : Nat) : ∀ u : Int, 0 ≤ u → u < 128 ^ (f + 1) → Byt (vdF f u) := by
  induction f with
  | zero => intro u h0 h1 x hx; simp [vdF] at hx; subst hx; simp at h1; omega
  | succ f ih =>
    intro u h0 h1
    rw [vdF]
    split
    · intro x hx; simp at hx; subst hx; omega
    · have e : (128 : Int) ^ (f + 1 + 1) = 128 ^ (f + 1) * 128 := Int.pow_succ 128 (f + 1)
      have := ih (u / 128) (by omega) (by rw [e] at h1; omega)
      intro x hx
      rcases List.mem_cons.1 hx with rfl | hx
      · omega
      · exact this x hx
theorem pow10 : (128 : Int) ^ (9 + 1) = 1180591620717411303424 := by decide
theorem vd_byt (u : Int) (h0 : 0 ≤ u) (h1 : u ≤ 18446744073709551615) : Byt (vd u) := vdF_byt 9 u h0 (by rw [pow10]; omega)

/-- With one digit of fuel more nothing changes. -/
theorem vdF_more (f : Nat) : ∀ u : Int, 0 ≤ u → u < 128 ^ (f + 1) → vdF (f + 1) u = vdF f u := by
  induction f with
  | zero => intro u h0 h1; simp at h1; simp [vdF, h1]
  | succ f ih =>
    intro u h0 h1
    by_cases h : u < 128
    · rw [vdF_lo _ _ h, vdF_lo _ _ h]
    · have e : (128 : Int) ^ (f + 1 + 1) = 128 ^ (f + 1) * 128 := Int.pow_succ 128 (f + 1)
      rw [vdF_hi _ _ h, vdF_hi _ _ h, ih (u / 128) (by omega) (by rw [e] at h1; omega)]
theorem vdF_eq (f : Nat) (u : Int) (h0 : 0 ≤ u) (h1 : u < 128 ^ (f + 1)) : ∀ g, f ≤ g → vdF g u = vdF f u := by
  intro g hg
  induction g with
  | zero => obtain rfl : f = 0 := by omega
            rfl
  | succ g ih =>
    rcases Nat.lt_or_ge g f with h | h
    · obtain rfl : f = g + 1 := by omega
      rfl
    · rw [vdF_more g u h0 (Int.lt_of_lt_of_le h1 (pow_up (by omega))), ih h]

theorem vdF_mono (f : Nat) : ∀ u v : Int, u ≤ v → (vdF f u).length ≤ (vdF f v).length := by
  induction f with
  | zero => intro u v _; simp [vdF]
  | succ f ih =>
    intro u v h
    rw [vdF]
    split
    · have := (vdF_len (f + 1) v).1; simpa using this
    · rw [vdF, if_neg (by omega)]
      simpa using ih (u / 128) (v / 128) (by omega)
theorem vdF_next (f : Nat) : ∀ u : Int, 0 ≤ u → (vdF f (u + 1)).length ≤ (vdF f u).length + 1 := by
  induction f with
  | zero => intro u _; simp [vdF]
  | succ f ih =>
    intro u h
    by_cases h1 : u + 1 < 128
    · rw [vdF, if_pos h1]; simp
    · by_cases h2 : u < 128
      · obtain rfl : u = 127 := by omega
        rw [vdF, if_neg (by omega), vdF, if_pos (by omega)]
        cases f with
        | zero => simp [vdF]
        | succ f => simp [vdF]
      · rw [vdF, if_neg h1, vdF, if_neg h2]
        simp only [List.length_cons]
        by_cases h3 : (u + 1) / 128 = u / 128
        · rw [h3]; omega
        · have e : (u + 1) / 128 = u / 128 + 1 := by omega
          rw [e]
          have := ih (u / 128) (by omega)
          omega

/-- Reading what was written, whatever stands behind. -/
theorem gvF_vdF (f : Nat) : ∀ (i : Nat) (acc u : Int) (more : List Int), i + f = 9 → 0 ≤ u → u * 128 ^ i ≤ 18446744073709551615 → (0 < i → 0 < u) →
    gvF i acc (vdF f u ++ more) = (acc + u * 128 ^ i, ((i + (vdF f u).length : Nat) : Int), 0) := by
  induction f with
  | zero =>
    intro i acc u more hi h0 h1 hp
    obtain rfl : i = 9 := by omega
    have hu : u ≤ 1 := by
      have e : (128 : Int) ^ 9 = 9223372036854775808 := by decide
      rw [e] at h1; omega
    have hu1 := hp (by omega)
    simp only [vdF, List.cons_append, List.nil_append, gvF]
    rw [if_neg (by omega), if_neg (by omega), if_neg (by omega)]
    rfl
  | succ f ih =>
    intro i acc u more hi h0 h1 hp
    rw [vdF]
    by_cases hu : u < 128
    · rw [if_pos hu]
      simp only [List.cons_append, List.nil_append, gvF]
      rw [if_neg (by omega), if_neg (by omega), if_neg (by omega)]
      rfl
    · rw [if_neg hu]
      simp only [List.cons_append, gvF]
      rw [if_neg (by omega), if_pos (by omega)]
      have e : (128 : Int) ^ (i + 1) = 128 ^ i * 128 := Int.pow_succ 128 i
      have hpos : (0 : Int) < 128 ^ i := Int.pow_pos (by omega)
      have hd : u / 128 * 128 ^ (i + 1) ≤ u * 128 ^ i := by
        rw [e, Int.mul_comm (128 ^ i) 128, ← Int.mul_assoc]
        exact Int.mul_le_mul_of_nonneg_right (by omega) (by omega)
      rw [ih (i + 1) _ (u / 128) more (by omega) (by omega) (by omega) (by omega)]
      have em : (u % 128 + 128) % 128 = u % 128 := by omega
      have es : u % 128 * 128 ^ i + u / 128 * 128 ^ (i + 1) = u * 128 ^ i := by
        rw [e, Int.mul_comm (128 ^ i) 128, ← Int.mul_assoc, ← Int.add_mul]
        congr 1; omega
      rw [em]
      simp only [List.length_cons, Prod.mk.injEq, and_true]
      refine ⟨by omega, by omega⟩
theorem gv_vd (u : Int) (more : List Int) (h0 : 0 ≤ u) (h1 : u ≤ 18446744073709551615) : gv (vd u ++ more) = (u, ((vd u).length : Int), 0) := by
  have := gvF_vdF 9 0 0 u more rfl h0 (by simpa using h1) (by omega)
  unfold gv vd
  rw [this]; simp

/-- What is read was written so; a beginning of it is too short. -/
theorem gvF_only : ∀ (b : List Int) (i : Nat) (acc : Int), Byt b → i ≤ 9 → (gvF i acc b).2.2 = 0 →
    ∃ (k : Nat) (u : Int), gvF i acc b = (acc + u * 128 ^ i, ((i + k : Nat) : Int), 0) ∧ 1 ≤ k ∧ k ≤ b.length ∧ i + k ≤ 10 ∧ 0 ≤ u ∧ u * 128 ^ i ≤ 18446744073709551615 - (128 ^ i - 1) ∧ (0 < i → 0 < u) ∧ b.take k = vdF (9 - i) u ∧
      ∀ j, j < k → gvF i acc (b.take j) = (0, 0, 6) := by
  intro b
  induction b with
  | nil => intro i acc _ _ h; simp [gvF] at h
  | cons c r ih =>
    intro i acc hb hi h
    have hc := hb c (by simp)
    have hr : Byt r := fun x hx => hb x (by simp [hx])
    have e : (128 : Int) ^ (i + 1) = 128 ^ i * 128 := Int.pow_succ 128 i
    have hpos : (0 : Int) < 128 ^ i := Int.pow_pos (by omega)
    have h9 : (128 : Int) ^ 9 = 9223372036854775808 := by decide
    rw [gvF] at h ⊢
    by_cases q1 : i = 9 ∧ 1 < c
    · rw [if_pos q1] at h; simp at h
    · rw [if_neg q1] at h ⊢
      by_cases q2 : 128 ≤ c
      · rw [if_pos q2] at h ⊢
        have hi' : i + 1 ≤ 9 := by omega
        obtain ⟨k, u, hk, k1, k2, k3, u0, u1, up, ht, hj⟩ := ih (i + 1) _ hr hi' h
        have up := up (by omega)
        have es : c % 128 * 128 ^ i + u * 128 ^ (i + 1) = (u * 128 + c % 128) * 128 ^ i := by
          rw [e, Int.mul_comm (128 ^ i) 128, ← Int.mul_assoc, ← Int.add_mul]
          congr 1; omega
        refine ⟨k + 1, u * 128 + c % 128, ?_, by omega, by simp; omega, by omega, by omega, ?_, by omega, ?_, ?_⟩
        · rw [hk]
          simp only [Prod.mk.injEq, and_true]
          exact ⟨by omega, by omega⟩
        · have hle : c % 128 * 128 ^ i ≤ 127 * 128 ^ i := Int.mul_le_mul_of_nonneg_right (by omega) (by omega)
          rw [← es]
          omega
        · have e9 : 9 - i = (9 - (i + 1)) + 1 := by omega
          rw [e9, vdF, if_neg (by omega), List.take_succ_cons, ht]
          have a1 : (u * 128 + c % 128) % 128 + 128 = c := by omega
          have a2 : (u * 128 + c % 128) / 128 = u := by omega
          rw [a1, a2]
        · intro j hjk
          cases j with
          | zero => simp [gvF]
          | succ j =>
            rw [List.take_succ_cons, gvF, if_neg q1, if_pos q2]
            exact hj j (by omega)
      · rw [if_neg q2] at h ⊢
        by_cases q3 : c = 0 ∧ 0 < i
        · rw [if_pos q3] at h; simp at h
        · rw [if_neg q3]
          refine ⟨1, c, rfl, by omega, by simp, by omega, by omega, ?_, by omega, ?_, ?_⟩
          · rcases Nat.lt_or_ge i 9 with h8 | h8
            · have hle : c * 128 ^ i ≤ 127 * 128 ^ i := Int.mul_le_mul_of_nonneg_right (by omega) (by omega)
              have hm : (128 : Int) ^ i ≤ 128 ^ 8 := pow_up (by omega)
              have h8' : (128 : Int) ^ 8 = 72057594037927936 := by decide
              omega
            · obtain rfl : i = 9 := by omega
              rw [h9]
              have : c ≤ 1 := by omega
              omega
          · rw [List.take_succ_cons, List.take_zero]
            generalize 9 - i = f
            cases f with
            | zero => rfl
            | succ f => rw [vdF, if_pos (by omega)]
          · intro j hj
            obtain rfl : j = 0 := by omega
            simp [gvF]
theorem gv_only (b : List Int) (hb : Byt b) (h : (gv b).2.2 = 0) :
    ∃ (k : Nat) (u : Int), gv b = (u, (k : Int), 0) ∧ 1 ≤ k ∧ k ≤ b.length ∧ k ≤ 10 ∧ 0 ≤ u ∧ u ≤ 18446744073709551615 ∧ b.take k = vd u ∧ ∀ j, j < k → gv (b.take j) = (0, 0, 6) := by
  obtain ⟨k, u, hk, k1, k2, k3, u0, u1, _, ht, hj⟩ := gvF_only b 0 0 hb (by omega) h
  exact ⟨k, u, by unfold gv; rw [hk]; simp, k1, k2, by omega, u0, by simpa using u1, ht, hj⟩
/-- Where there is an error, nothing else is told. -/
theorem gvF_err : ∀ (b : List Int) (i : Nat) (acc : Int), (gvF i acc b).2.2 = 0 ∨ gvF i acc b = (0, 0, 6) ∨ gvF i acc b = (0, 0, 7) := by
  intro b
  induction b with
  | nil => intro i acc; exact .inr (.inl rfl)
  | cons c r ih =>
    intro i acc
    rw [gvF]
    split
    · exact .inr (.inr rfl)
    · split
      · exact ih _ _
      · split
        · exact .inr (.inr rfl)
        · exact .inl rfl
theorem gv_err (b : List Int) : (gv b).2.2 = 0 ∨ gv b = (0, 0, 6) ∨ gv b = (0, 0, 7) := gvF_err b 0 0
end Nm
end Go.Proofs.YtoibpbnebcoafaaGreat
namespace Go.Proofs.YtoibpbnebcoafaaGreat
set_option maxRecDepth 20000
open Go.RowKit
namespace Lw

theorem byt_of {xs : List Int} (h : Wd.Fits .u8 xs) : Nm.Byt xs := fun x hx => by
  have := h x hx
  simp [Lit.wf, IntKind.min, IntKind.max, IntKind.signed, IntKind.bits] at this
  omega
theorem byt_app {xs ys : List Int} (h : Nm.Byt xs) (h' : Nm.Byt ys) : Nm.Byt (xs ++ ys) := fun x hx => by
  rcases List.mem_append.1 hx with q | q
  · exact h x q
  · exact h' x q
theorem getI_vd (n : Int) (more : List Int) (n1 : -9223372036854775808 ≤ n) (n2 : n ≤ 9223372036854775807) : Nm.getI (Nm.vd (Nm.zz n) ++ more) = (n, ((Nm.vd (Nm.zz n)).length : Int), 0) := by
  unfold Nm.getI
  rw [Nm.gv_vd _ _ (Nm.zz_lo n) (Nm.zz_hi n n1 n2)]
  show (Nm.unz (Nm.zz n), _, _) = _
  rw [Nm.unz_zz]
theorem getL_vd (n : Int) (more : List Int) (n1 : 0 ≤ n) (n2 : n ≤ 9223372036854775807) : Nm.getL (Nm.vd n ++ more) = (n, ((Nm.vd n).length : Int), 0) := by
  unfold Nm.getL
  rw [Nm.gv_vd _ _ n1 (by omega)]
  exact if_neg (show ¬ 9223372036854775807 < n by omega)
end Lw
end Go.Proofs.YtoibpbnebcoafaaGreat
namespace Go.Proofs.YtoibpbnebcoafaaGreat
set_option maxRecDepth 20000
namespace Va
/-- The bytes of a text as numbers. -/
def byts (s : ByteArray) : List Int := s.data.toList.map fun b => (b.toNat : Int)
theorem byts_len (s : ByteArray) : (byts s).length = s.size := by
  unfold byts
  rw [List.length_map, Array.length_toList]
  rfl
theorem byts_byt (s : ByteArray) : Nm.Byt (byts s) := fun x hx => by
  obtain ⟨b, _, rfl⟩ := List.mem_map.1 hx
  have := b.toNat_lt
  omega
theorem str_byts (s : ByteArray) : strOfNums (byts s) = s := by
  unfold strOfNums byts
  rw [List.map_map, List.map_congr_left (g := id) (fun b _ => by simp)]
  simp
theorem byts_str {xs : List Int} (h : Nm.Byt xs) : byts (strOfNums xs) = xs := by
  unfold byts
  rw [strOfNums_data, List.map_map, List.map_congr_left (g := id) (fun x hx => ?_), List.map_id]
  have := h x hx
  simp only [Function.comp_apply, id_eq, UInt8.toNat_ofNat']
  omega
/-- The bytes of a value that may be. -/
def put (v : Vl) : List Int :=
  if v.kind = 1 then Nm.vd (Nm.zz v.i) else if v.kind = 2 then Nm.vd v.s.size ++ byts v.s else if v.kind = 3 then [if v.b then 1 else 0] else []
/-- What Get answers. -/
def get (b : List Int) (kind : Int) : Vl × Int × Int :=
  if kind = 0 then (null, 0, 0)
  else if kind = 1 then (if (Nm.getI b).2.2 = 0 then (⟨1, (Nm.getI b).1, ⟨#[]⟩, false⟩, (Nm.getI b).2.1, 0) else (null, 0, (Nm.getI b).2.2))
  else if kind = 2 then
    (if (Nm.getL b).2.2 ≠ 0 then (null, 0, (Nm.getL b).2.2) else if 64 < (Nm.getL b).1 then (null, 0, 2)
     else if (b.length : Int) < (Nm.getL b).2.1 + (Nm.getL b).1 then (null, 0, 6)
     else (⟨2, 0, strOfNums ((b.drop (Nm.getL b).2.1.toNat).take (Nm.getL b).1.toNat), false⟩, (Nm.getL b).2.1 + (Nm.getL b).1, 0))
  else if kind = 3 then
    (match b with
     | [] => (null, 0, 6)
     | c :: _ => if 1 < c then (null, 0, 7) else (⟨3, 0, ⟨#[]⟩, c == 1⟩, 1, 0))
  else (null, 0, 1)
/-- What Any answers. -/
def any (b : List Int) : Vl × Int × Int :=
  match b with
  | [] => (null, 0, 6)
  | c :: r => if 3 < c then (null, 0, 7) else if (get r c).2.2 = 0 then ((get r c).1, (get r c).2.1 + 1, 0) else (null, 0, (get r c).2.2)

theorem put_len {v : Vl} (h : May v) : (put v).length ≤ 74 := by
  obtain ⟨k, i, s, b⟩ := v
  unfold May at h
  simp only [] at h
  unfold put
  rcases h with ⟨rfl, _⟩ | ⟨rfl, _⟩ | ⟨rfl, _, hs, _⟩ | ⟨rfl, _⟩
  · simp
  · have := Nm.vd_len (Nm.zz i)
    simp
    omega
  · have := Nm.vd_len (s.size : Int)
    have := byts_len s
    simp
    omega
  · simp
theorem put_byt {v : Vl} (h : May v) (h1 : -9223372036854775808 ≤ v.i) (h2 : v.i ≤ 9223372036854775807) : Nm.Byt (put v) := by
  obtain ⟨k, i, s, b⟩ := v
  unfold May at h
  simp only [] at h h1 h2
  unfold put
  rcases h with ⟨rfl, _⟩ | ⟨rfl, _⟩ | ⟨rfl, _, hs, _⟩ | ⟨rfl, _⟩
  · intro x hx; simp at hx
  · exact Nm.vd_byt _ (Nm.zz_lo i) (Nm.zz_hi i h1 h2)
  · exact Lw.byt_app (Nm.vd_byt _ (by omega) (by show (s.size : Int) ≤ _; omega)) (byts_byt s)
  · intro x hx
    simp at hx
    cases b <;> simp at hx <;> omega
/-- What was put is got, whatever stands behind. -/
theorem get_put {v : Vl} (h : May v) (h1 : -9223372036854775808 ≤ v.i) (h2 : v.i ≤ 9223372036854775807) (more : List Int) : get (put v ++ more) v.kind = (v, ((put v).length : Int), 0) := by
  obtain ⟨k, i, s, b⟩ := v
  unfold May at h
  simp only [] at h h1 h2
  unfold put get
  rcases h with ⟨rfl, rfl, rfl, rfl⟩ | ⟨rfl, rfl, rfl⟩ | ⟨rfl, rfl, hs, rfl⟩ | ⟨rfl, rfl, rfl⟩
  · simp [null]
  · simp only [if_pos, show ¬ ((1 : Int) = 0) by omega, if_neg, not_false_eq_true]
    rw [Lw.getI_vd i more h1 h2]
    simp
  · simp only [show ¬ ((2 : Int) = 0) by omega, show ¬ ((2 : Int) = 1) by omega, if_pos, if_neg, not_false_eq_true]
    rw [List.append_assoc, Lw.getL_vd (s.size : Int) (byts s ++ more) (by omega) (by omega)]
    have hl := byts_len s
    rw [if_neg (by simp), if_neg (by simp; omega), if_neg (by simp; omega)]
    simp only [Int.toNat_natCast]
    rw [List.drop_left, List.take_left' hl, str_byts]
    simp
    omega
  · cases b <;> simp
theorem any_put {v : Vl} (h : May v) (h1 : -9223372036854775808 ≤ v.i) (h2 : v.i ≤ 9223372036854775807) (more : List Int) : any (v.kind :: (put v ++ more)) = (v, ((put v).length : Int) + 1, 0) := by
  have hk : ¬ 3 < v.kind := by
    rcases h with ⟨q, _⟩ | ⟨q, _⟩ | ⟨q, _⟩ | ⟨q, _⟩ <;> omega
  unfold any
  simp only []
  rw [if_neg hk, get_put h h1 h2 more, if_pos rfl]
theorem byt_take {b : List Int} (h : Nm.Byt b) (k : Nat) : Nm.Byt (b.take k) := fun x hx => h x (List.mem_of_mem_take hx)
theorem byt_drop {b : List Int} (h : Nm.Byt b) (k : Nat) : Nm.Byt (b.drop k) := fun x hx => h x (List.mem_of_mem_drop hx)
theorem getI_ok {b : List Int} (hb : Nm.Byt b) (h : (Nm.getI b).2.2 = 0) : ∃ (k : Nat) (n : Int), Nm.getI b = (n, (k : Int), 0) ∧ k ≤ b.length ∧ -9223372036854775808 ≤ n ∧ n ≤ 9223372036854775807 ∧ b.take k = Nm.vd (Nm.zz n) := by
  have h0 : (Nm.gv b).2.2 = 0 := by
    unfold Nm.getI at h
    split at h
    · assumption
    · exact h
  obtain ⟨k, u, e, k1, k2, k3, u0, u1, ht, _⟩ := Nm.gv_only b hb h0
  have hu := Nm.unz_bd u u0 u1
  exact ⟨k, Nm.unz u, by unfold Nm.getI; rw [e]; simp, k2, hu.1, hu.2, by rw [ht, Nm.zz_unz u u0]⟩
theorem getL_ok {b : List Int} (hb : Nm.Byt b) (h : (Nm.getL b).2.2 = 0) : ∃ (k n : Nat), Nm.getL b = ((n : Int), (k : Int), 0) ∧ k ≤ b.length ∧ (n : Int) ≤ 9223372036854775807 ∧ b.take k = Nm.vd (n : Int) := by
  have h0 : (Nm.gv b).2.2 = 0 := by
    unfold Nm.getL at h
    split at h
    · assumption
    · exact h
  obtain ⟨k, u, e, k1, k2, k3, u0, u1, ht, _⟩ := Nm.gv_only b hb h0
  have hu : u ≤ 9223372036854775807 := by
    unfold Nm.getL at h
    rw [e] at h
    simp only [if_pos] at h
    split at h
    · cases h
    · omega
  refine ⟨k, u.toNat, ?_, k2, by omega, by rw [ht]; congr 1; omega⟩
  unfold Nm.getL
  rw [e]
  simp only [if_pos]
  rw [if_neg (by omega), show ((u.toNat : Nat) : Int) = u by omega]
/-- What is got may be, and would be put as the same bytes. -/
theorem get_only {b : List Int} (hb : Nm.Byt b) (kind : Int) (h : (get b kind).2.2 = 0) : ∃ (y : Vl) (j : Nat), get b kind = (y, (j : Int), 0) ∧ May y ∧ y.kind = kind ∧ j ≤ b.length ∧ put y = b.take j ∧ -9223372036854775808 ≤ y.i ∧ y.i ≤ 9223372036854775807 := by
  unfold get at h ⊢
  by_cases k0 : kind = 0
  · subst k0
    exact ⟨null, 0, by simp, may_null, rfl, by omega, by simp [put, null], by simp [null], by simp [null]⟩
  rw [if_neg k0] at h ⊢
  by_cases k1 : kind = 1
  · subst k1
    rw [if_pos rfl] at h ⊢
    by_cases h0 : (Nm.getI b).2.2 = 0
    · obtain ⟨k, n, e, hk, n1, n2, ht⟩ := getI_ok hb h0
      rw [e]
      exact ⟨⟨1, n, ⟨#[]⟩, false⟩, k, by simp, .inr (.inl ⟨rfl, rfl, rfl⟩), rfl, hk, by rw [ht]; simp [put], n1, n2⟩
    · rw [if_neg h0] at h
      exact absurd h h0
  rw [if_neg k1] at h ⊢
  by_cases k2 : kind = 2
  · subst k2
    rw [if_pos rfl] at h ⊢
    by_cases h0 : (Nm.getL b).2.2 = 0
    · obtain ⟨k, n, e, hk, n1, ht⟩ := getL_ok hb h0
      rw [e] at h ⊢
      simp only [ne_eq, not_true_eq_false, if_false, Int.toNat_natCast] at h ⊢
      by_cases q1 : 64 < (n : Int)
      · rw [if_pos q1] at h
        cases h
      rw [if_neg q1] at h ⊢
      by_cases q2 : (b.length : Int) < (k : Int) + (n : Int)
      · rw [if_pos q2] at h
        cases h
      rw [if_neg q2]
      have hsz : (strOfNums ((b.drop k).take n)).size = n := by
        rw [strOfNums_size, List.length_take, List.length_drop]
        omega
      refine ⟨⟨2, 0, strOfNums ((b.drop k).take n), false⟩, k + n, by simp, .inr (.inr (.inl ⟨rfl, rfl, by rw [hsz]; omega, rfl⟩)), rfl, by omega, ?_, by simp, by simp⟩
      simp only [put, show ¬ ((2 : Int) = 1) by omega, if_pos, if_neg, not_false_eq_true]
      rw [hsz, byts_str (byt_take (byt_drop hb k) n), ← ht, List.take_add]
    · rw [if_pos h0] at h
      exact absurd h h0
  rw [if_neg k2] at h ⊢
  by_cases k3 : kind = 3
  · subst k3
    rw [if_pos rfl] at h ⊢
    match b, h, hb with
    | [], h, _ => cases h
    | c :: r, h, hb =>
      simp only [] at h ⊢
      have hc := hb c (by simp)
      by_cases q : 1 < c
      · rw [if_pos q] at h
        cases h
      rw [if_neg q]
      refine ⟨⟨3, 0, ⟨#[]⟩, c == 1⟩, 1, by simp, .inr (.inr (.inr ⟨rfl, rfl, rfl⟩)), rfl, by simp, ?_, by simp, by simp⟩
      have : c = 0 ∨ c = 1 := by omega
      rcases this with rfl | rfl <;> simp [put]
  · rw [if_neg k3] at h
    cases h
theorem getI_err (b : List Int) (h : (Nm.getI b).2.2 ≠ 0) : Nm.getI b = (0, 0, (Nm.getI b).2.2) := by
  unfold Nm.getI at h ⊢
  split
  · rename_i q; rw [if_pos q] at h; exact absurd rfl h
  · rfl
/-- Where there is an error, nothing else is told. -/
theorem get_err (b : List Int) (kind : Int) (h : (get b kind).2.2 ≠ 0) : get b kind = (null, 0, (get b kind).2.2) := by
  unfold get at h ⊢
  split
  · rfl
  split
  · split
    · rename_i k0 k1 q
      rw [if_neg k0, if_pos k1, if_pos q] at h
      exact absurd rfl h
    · rfl
  split
  · split
    · rfl
    split
    · rfl
    split
    · rfl
    · rename_i k0 k1 k2 q0 q1 q2
      rw [if_neg k0, if_neg k1, if_pos k2, if_neg q0, if_neg q1, if_neg q2] at h
      exact absurd rfl h
  split
  · split
    · rfl
    · rename_i c r
      split
      · rfl
      · rename_i k0 k1 k2 k3 _ q
        rw [if_neg k0, if_neg k1, if_neg k2, if_pos k3] at h
        simp only [if_neg q] at h
        exact absurd rfl h
  · rfl
end Va
end Go.Proofs.YtoibpbnebcoafaaGreat
