/- The bytes of a value in plain words, and the value that bytes begin with. No program, no memory. -/
import Derived.Test.YtiokajaadmfohaaVaOrd
import Derived.Test.YtiokajaadmfohaaNumRead
import Derived.Laws.BytesArg
namespace Go.Proofs.Ytiokajaadmfohaa
set_option maxRecDepth 20000
namespace Va
/-- The bytes of a text as numbers. -/
def byts (s : ByteArray) : List Int := s.data.toList.map fun b => (b.toNat : Int)
theorem byts_len (s : ByteArray) : (byts s).length = s.size := by
  unfold byts
  rw [List.length_map, Array.length_toList]
  rfl
theorem byts_byt (s : ByteArray) : Nm.Byt (byts s) := fun x hx => by
  obtain ⟨b, _, rfl⟩ := List.mem_map.1 hx
  have := b.toNat_lt
  omega
theorem str_byts (s : ByteArray) : strOfNums (byts s) = s := by
  unfold strOfNums byts
  rw [List.map_map, List.map_congr_left (g := id) (fun b _ => by simp)]
  simp
theorem byts_str {xs : List Int} (h : Nm.Byt xs) : byts (strOfNums xs) = xs := by
  unfold byts
  rw [strOfNums_data, List.map_map, List.map_congr_left (g := id) (fun x hx => ?_), List.map_id]
  have := h x hx
  simp only [Function.comp_apply, id_eq, UInt8.toNat_ofNat']
  omega
/-- The bytes of a value that may be. -/
def put (v : Vl) : List Int :=
  if v.kind = 1 then Nm.vd (Nm.zz v.i) else if v.kind = 2 then Nm.vd v.s.size ++ byts v.s else if v.kind = 3 then [if v.b then 1 else 0] else []
/-- What Get answers. -/
def get (b : List Int) (kind : Int) : Vl × Int × Int :=
  if kind = 0 then (null, 0, 0)
  else if kind = 1 then (if (Nm.getI b).2.2 = 0 then (⟨1, (Nm.getI b).1, ⟨#[]⟩, false⟩, (Nm.getI b).2.1, 0) else (null, 0, (Nm.getI b).2.2))
  else if kind = 2 then
    (if (Nm.getL b).2.2 ≠ 0 then (null, 0, (Nm.getL b).2.2) else if 64 < (Nm.getL b).1 then (null, 0, 2)
     else if (b.length : Int) < (Nm.getL b).2.1 + (Nm.getL b).1 then (null, 0, 6)
     else (⟨2, 0, strOfNums ((b.drop (Nm.getL b).2.1.toNat).take (Nm.getL b).1.toNat), false⟩, (Nm.getL b).2.1 + (Nm.getL b).1, 0))
  else if kind = 3 then
    (match b with
     | [] => (null, 0, 6)
     | c :: _ => if 1 < c then (null, 0, 7) else (⟨3, 0, ⟨#[]⟩, c == 1⟩, 1, 0))
  else (null, 0, 1)
/-- What Any answers. -/
def any (b : List Int) : Vl × Int × Int :=
  match b with
  | [] => (null, 0, 6)
  | c :: r => if 3 < c then (null, 0, 7) else if (get r c).2.2 = 0 then ((get r c).1, (get r c).2.1 + 1, 0) else (null, 0, (get r c).2.2)

theorem put_len {v : Vl} (h : May v) : (put v).length ≤ 74 := by
  obtain ⟨k, i, s, b⟩ := v
  unfold May at h
  simp only [] at h
  unfold put
  rcases h with ⟨rfl, _⟩ | ⟨rfl, _⟩ | ⟨rfl, _, hs, _⟩ | ⟨rfl, _⟩
  · simp
  · have := Nm.vd_len (Nm.zz i)
    simp
    omega
  · have := Nm.vd_len (s.size : Int)
    have := byts_len s
    simp
    omega
  · simp
theorem put_byt {v : Vl} (h : May v) (h1 : -9223372036854775808 ≤ v.i) (h2 : v.i ≤ 9223372036854775807) : Nm.Byt (put v) := by
  obtain ⟨k, i, s, b⟩ := v
  unfold May at h
  simp only [] at h h1 h2
  unfold put
  rcases h with ⟨rfl, _⟩ | ⟨rfl, _⟩ | ⟨rfl, _, hs, _⟩ | ⟨rfl, _⟩
  · intro x hx; simp at hx
  · exact Nm.vd_byt _ (Nm.zz_lo i) (Nm.zz_hi i h1 h2)
  · exact Lw.byt_app (Nm.vd_byt _ (by omega) (by show (s.size : Int) ≤ _; omega)) (byts_byt s)
  · intro x hx
    simp at hx
    cases b <;> simp at hx <;> omega
/-- What was put is got, whatever stands behind. -/
theorem get_put {v : Vl} (h : May v) (h1 : -9223372036854775808 ≤ v.i) (h2 : v.i ≤ 9223372036854775807) (more : List Int) : get (put v ++ more) v.kind = (v, ((put v).length : Int), 0) := by
  obtain ⟨k, i, s, b⟩ := v
  unfold May at h
  simp only [] at h h1 h2
  unfold put get
  rcases h with ⟨rfl, rfl, rfl, rfl⟩ | ⟨rfl, rfl, rfl⟩ | ⟨rfl, rfl, hs, rfl⟩ | ⟨rfl, rfl, rfl⟩
  · simp [null]
  · simp only [if_pos, show ¬ ((1 : Int) = 0) by omega, if_neg, not_false_eq_true]
    rw [Lw.getI_vd i more h1 h2]
    simp
  · simp only [show ¬ ((2 : Int) = 0) by omega, show ¬ ((2 : Int) = 1) by omega, if_pos, if_neg, not_false_eq_true]
    rw [List.append_assoc, Lw.getL_vd (s.size : Int) (byts s ++ more) (by omega) (by omega)]
    have hl := byts_len s
    rw [if_neg (by simp), if_neg (by simp; omega), if_neg (by simp; omega)]
    simp only [Int.toNat_natCast]
    rw [List.drop_left, List.take_left' hl, str_byts]
    simp
    omega
  · cases b <;> simp
theorem any_put {v : Vl} (h : May v) (h1 : -9223372036854775808 ≤ v.i) (h2 : v.i ≤ 9223372036854775807) (more : List Int) : any (v.kind :: (put v ++ more)) = (v, ((put v).length : Int) + 1, 0) := by
  have hk : ¬ 3 < v.kind := by
    rcases h with ⟨q, _⟩ | ⟨q, _⟩ | ⟨q, _⟩ | ⟨q, _⟩ <;> omega
  unfold any
  simp only []
  rw [if_neg hk, get_put h h1 h2 more, if_pos rfl]
theorem byt_take {b : List Int} (h : Nm.Byt b) (k : Nat) : Nm.Byt (b.take k) := fun x hx => h x (List.mem_of_mem_take hx)
theorem byt_drop {b : List Int} (h : Nm.Byt b) (k : Nat) : Nm.Byt (b.drop k) := fun x hx => h x (List.mem_of_mem_drop hx)
theorem getI_ok {b : List Int} (hb : Nm.Byt b) (h : (Nm.getI b).2.2 = 0) : ∃ (k : Nat) (n : Int), Nm.getI b = (n, (k : Int), 0) ∧ k ≤ b.length ∧ -9223372036854775808 ≤ n ∧ n ≤ 9223372036854775807 ∧ b.take k = Nm.vd (Nm.zz n) := by
  have h0 : (Nm.gv b).2.2 = 0 := by
    unfold Nm.getI at h
    split at h
    · assumption
    · exact h
  obtain ⟨k, u, e, k1, k2, k3, u0, u1, ht, _⟩ := Nm.gv_only b hb h0
  have hu := Nm.unz_bd u u0 u1
  exact ⟨k, Nm.unz u, by unfold Nm.getI; rw [e]; simp, k2, hu.1, hu.2, by rw [ht, Nm.zz_unz u u0]⟩
theorem getL_ok {b : List Int} (hb : Nm.Byt b) (h : (Nm.getL b).2.2 = 0) : ∃ (k n : Nat), Nm.getL b = ((n : Int), (k : Int), 0) ∧ k ≤ b.length ∧ (n : Int) ≤ 9223372036854775807 ∧ b.take k = Nm.vd (n : Int) := by
  have h0 : (Nm.gv b).2.2 = 0 := by
    unfold Nm.getL at h
    split at h
    · assumption
    · exact h
  obtain ⟨k, u, e, k1, k2, k3, u0, u1, ht, _⟩ := Nm.gv_only b hb h0
  have hu : u ≤ 9223372036854775807 := by
    unfold Nm.getL at h
    rw [e] at h
    simp only [if_pos] at h
    split at h
    · cases h
    · omega
  refine ⟨k, u.toNat, ?_, k2, by omega, by rw [ht]; congr 1; omega⟩
  unfold Nm.getL
  rw [e]
  simp only [if_pos]
  rw [if_neg (by omega), show ((u.toNat : Nat) : Int) = u by omega]
/-- What is got may be, and would be put as the same bytes. -/
theorem get_only {b : List Int} (hb : Nm.Byt b) (kind : Int) (h : (get b kind).2.2 = 0) : ∃ (y : Vl) (j : Nat), get b kind = (y, (j : Int), 0) ∧ May y ∧ y.kind = kind ∧ j ≤ b.length ∧ put y = b.take j ∧ -9223372036854775808 ≤ y.i ∧ y.i ≤ 9223372036854775807 := by
  unfold get at h ⊢
  by_cases k0 : kind = 0
  · subst k0
    exact ⟨null, 0, by simp, may_null, rfl, by omega, by simp [put, null], by simp [null], by simp [null]⟩
  rw [if_neg k0] at h ⊢
  by_cases k1 : kind = 1
  · subst k1
    rw [if_pos rfl] at h ⊢
    by_cases h0 : (Nm.getI b).2.2 = 0
    · obtain ⟨k, n, e, hk, n1, n2, ht⟩ := getI_ok hb h0
      rw [e]
      exact ⟨⟨1, n, ⟨#[]⟩, false⟩, k, by simp, .inr (.inl ⟨rfl, rfl, rfl⟩), rfl, hk, by rw [ht]; simp [put], n1, n2⟩
    · rw [if_neg h0] at h
      exact absurd h h0
  rw [if_neg k1] at h ⊢
  by_cases k2 : kind = 2
  · subst k2
    rw [if_pos rfl] at h ⊢
    by_cases h0 : (Nm.getL b).2.2 = 0
    · obtain ⟨k, n, e, hk, n1, ht⟩ := getL_ok hb h0
      rw [e] at h ⊢
      simp only [ne_eq, not_true_eq_false, if_false, Int.toNat_natCast] at h ⊢
      by_cases q1 : 64 < (n : Int)
      · rw [if_pos q1] at h
        cases h
      rw [if_neg q1] at h ⊢
      by_cases q2 : (b.length : Int) < (k : Int) + (n : Int)
      · rw [if_pos q2] at h
        cases h
      rw [if_neg q2]
      have hsz : (strOfNums ((b.drop k).take n)).size = n := by
        rw [strOfNums_size, List.length_take, List.length_drop]
        omega
      refine ⟨⟨2, 0, strOfNums ((b.drop k).take n), false⟩, k + n, by simp, .inr (.inr (.inl ⟨rfl, rfl, by rw [hsz]; omega, rfl⟩)), rfl, by omega, ?_, by simp, by simp⟩
      simp only [put, show ¬ ((2 : Int) = 1) by omega, if_pos, if_neg, not_false_eq_true]
      rw [hsz, byts_str (byt_take (byt_drop hb k) n), ← ht, List.take_add]
    · rw [if_pos h0] at h
      exact absurd h h0
  rw [if_neg k2] at h ⊢
  by_cases k3 : kind = 3
  · subst k3
    rw [if_pos rfl] at h ⊢
    match b, h, hb with
    | [], h, _ => cases h
    | c :: r, h, hb =>
      simp only [] at h ⊢
      have hc := hb c (by simp)
      by_cases q : 1 < c
      · rw [if_pos q] at h
        cases h
      rw [if_neg q]
      refine ⟨⟨3, 0, ⟨#[]⟩, c == 1⟩, 1, by simp, .inr (.inr (.inr ⟨rfl, rfl, rfl⟩)), rfl, by simp, ?_, by simp, by simp⟩
      have : c = 0 ∨ c = 1 := by omega
      rcases this with rfl | rfl <;> simp [put]
  · rw [if_neg k3] at h
    cases h
theorem getI_err (b : List Int) (h : (Nm.getI b).2.2 ≠ 0) : Nm.getI b = (0, 0, (Nm.getI b).2.2) := by
  unfold Nm.getI at h ⊢
  split
  · rename_i q; rw [if_pos q] at h; exact absurd rfl h
  · rfl
/-- Where there is an error, nothing else is told. -/
theorem get_err (b : List Int) (kind : Int) (h : (get b kind).2.2 ≠ 0) : get b kind = (null, 0, (get b kind).2.2) := by
  unfold get at h ⊢
  split
  · rfl
  split
  · split
    · rename_i k0 k1 q
      rw [if_neg k0, if_pos k1, if_pos q] at h
      exact absurd rfl h
    · rfl
  split
  · split
    · rfl
    split
    · rfl
    split
    · rfl
    · rename_i k0 k1 k2 q0 q1 q2
      rw [if_neg k0, if_neg k1, if_pos k2, if_neg q0, if_neg q1, if_neg q2] at h
      exact absurd rfl h
  split
  · split
    · rfl
    · rename_i c r
      split
      · rfl
      · rename_i k0 k1 k2 k3 _ q
        rw [if_neg k0, if_neg k1, if_neg k2, if_pos k3] at h
        simp only [if_neg q] at h
        exact absurd rfl h
  · rfl
end Va
end Go.Proofs.Ytiokajaadmfohaa
