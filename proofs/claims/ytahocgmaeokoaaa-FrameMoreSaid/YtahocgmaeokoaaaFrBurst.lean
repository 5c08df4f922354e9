/- The plain arithmetic of layer 4: frames of which four bytes in a row were changed, place by place. No program, no memory. -/
import Derived.Test.YtahocgmaeokoaaaFrCuts
namespace Go.Proofs.Ytahocgmaeokoaaa
namespace Fr

/-- The first t of the bytes from place s on, changed by xs. -/
def chg (a : List Int) (s : Nat) (xs : List Int) : Nat → List Int
  | 0 => a
  | t + 1 => (chg a s xs t).set (s + t) ((((chg a s xs t).getD (s + t) 0).toNat ^^^ (xs.getD t 0).toNat : Nat) : Int)
theorem chg_len (a : List Int) (s : Nat) (xs : List Int) : ∀ t, (chg a s xs t).length = a.length
  | 0 => rfl
  | t + 1 => by rw [chg, List.length_set, chg_len a s xs t]
theorem getD_set (l : List Int) (i j : Nat) (x : Int) (hi : i < l.length) : (l.set i x).getD j 0 = if i = j then x else l.getD j 0 := by
  simp only [List.getD, List.getElem?_set]
  by_cases h : i = j
  · subst h; simp [hi]
  · simp [h]
theorem chg_get (a : List Int) (s : Nat) (xs : List Int) : ∀ t, s + t ≤ a.length → ∀ j, (chg a s xs t).getD j 0 = if s ≤ j ∧ j < s + t then (((a.getD j 0).toNat ^^^ (xs.getD (j - s) 0).toNat : Nat) : Int) else a.getD j 0
  | 0, _, j => by rw [chg, if_neg (by omega)]
  | t + 1, h, j => by
    have ih := chg_get a s xs t (by omega)
    rw [chg, getD_set _ _ _ _ (by rw [chg_len]; omega)]
    by_cases q : s + t = j
    · subst q
      rw [if_pos rfl, if_pos (by omega), ih (s + t), if_neg (by omega), show s + t - s = t by omega]
    · rw [if_neg q, ih j]
      by_cases q2 : s ≤ j ∧ j < s + t
      · rw [if_pos q2, if_pos (by omega)]
      · rw [if_neg q2, if_neg (by omega)]
theorem byt_getD {a : List Int} (h : Nm.Byt a) (j : Nat) : 0 ≤ a.getD j 0 ∧ a.getD j 0 ≤ 255 := by
  by_cases q : j < a.length
  · exact h _ (by simp [List.getD, q])
  · rw [show a.getD j 0 = 0 by simp [List.getD, show a.length ≤ j by omega]]; omega
theorem chg_byt {a xs : List Int} (ha : Nm.Byt a) (hx : Nm.Byt xs) (s t : Nat) (h : s + t ≤ a.length) : Nm.Byt (chg a s xs t) := by
  intro y hy
  obtain ⟨j, hj, rfl⟩ := List.getElem_of_mem hy
  have e : (chg a s xs t)[j] = (chg a s xs t).getD j 0 := by simp [List.getD, hj]
  rw [e, chg_get a s xs t h j]
  have b1 := byt_getD ha j
  have b2 := byt_getD hx (j - s)
  split
  · have : (a.getD j 0).toNat ^^^ (xs.getD (j - s) 0).toNat < 2 ^ 8 := xor_lt (by omega) (by omega)
    omega
  · exact b1
theorem take_same {x a : List Int} {k : Nat} (hl : x.length = a.length) (h : ∀ j, j < k → x.getD j 0 = a.getD j 0) : x.take k = a.take k := by
  refine List.ext_getElem (by simp [hl]) fun j h1 h2 => ?_
  simp only [List.length_take] at h1 h2
  have := h j (by omega)
  rw [List.getElem_take, List.getElem_take]
  simpa [List.getD, show j < x.length by omega, show j < a.length by omega] using this

/-- A frame, and more behind it, of which four bytes in a row behind the length were changed, is read as nothing. -/
theorem rd_burst (p more : List Int) (i : Nat) (x0 x1 x2 x3 : Int) (hl : p.length ≤ 65536) (hp : Nm.Byt p) (hm : Nm.Byt more) (hi : i ≤ p.length) (hx : Nm.Byt [x0, x1, x2, x3]) (hne : ¬ (x0 = 0 ∧ x1 = 0 ∧ x2 = 0 ∧ x3 = 0)) :
    rd (chg (frame p ++ more) ((Nm.vd (p.length : Int)).length + i) [x0, x1, x2, x3] 4) = ([], 0) := by
  have y0 := hx x0 (by simp)
  have y1 := hx x1 (by simp)
  have y2 := hx x2 (by simp)
  have y3 := hx x3 (by simp)
  have hF : Nm.Byt (frame p ++ more) := fun y hy => by
    rcases List.mem_append.1 hy with q | q
    · exact frame_byt hl hp y q
    · exact hm y q
  obtain ⟨k, hk⟩ : ∃ k, k = (Nm.vd (p.length : Int)).length := ⟨_, rfl⟩
  have hfl : k + i + 4 ≤ (frame p ++ more).length := by rw [List.length_append, frame_len, hk]; omega
  have hg := chg_get (frame p ++ more) (k + i) [x0, x1, x2, x3] 4 hfl
  have ha : frame p ++ more = Nm.vd (p.length : Int) ++ ((p ++ le4 (sum p)) ++ more) := by simp [frame]
  refine rd_none (openF_burst p more _ i x0.toNat x1.toNat x2.toNat x3.toNat hl hp (chg_byt hF hx _ 4 (by rw [← hk]; exact hfl)) hi (by omega) (by omega) (by omega) (by omega) (by omega) (chg_len _ _ _ _) ?_ ?_)
  · rw [take_same (a := frame p ++ more) (chg_len _ _ _ _) (fun j hj => by rw [← hk] at hj ⊢; rw [hg j, if_neg (by omega)]), ha]
    exact List.take_left
  · intro j hj
    rw [← hk, hg (k + j)]
    have e1 : (frame p ++ more).getD (k + j) 0 = (p ++ le4 (sum p)).getD j 0 := by
      rw [ha, hk]
      simp only [List.getD]
      rw [List.getElem?_append_right (by omega), Nat.add_sub_cancel_left, List.getElem?_append_left (by simp [le4_len]; omega)]
    rw [e1]
    have c0 : ((x0.toNat : Nat) : Int) = x0 := by omega
    have c1 : ((x1.toNat : Nat) : Int) = x1 := by omega
    have c2 : ((x2.toNat : Nat) : Int) = x2 := by omega
    have c3 : ((x3.toNat : Nat) : Int) = x3 := by omega
    rw [c0, c1, c2, c3]
    have bz := byt_getD (a := p ++ le4 (sum p)) (fun y hy => by
      rcases List.mem_append.1 hy with q | q
      · exact hp y q
      · exact le4_byt _ y q) j
    by_cases q1 : j < i
    · have e2 : (List.replicate i (0 : Int) ++ [x0, x1, x2, x3] ++ List.replicate (p.length - i) 0).getD j 0 = 0 := by
        rw [List.append_assoc]
        simp only [List.getD]
        rw [List.getElem?_append_left (by simpa using q1)]
        simp [q1]
      rw [if_neg (by omega), e2]
      simp
    · by_cases q2 : j < i + 4
      · have e2 : (List.replicate i (0 : Int) ++ [x0, x1, x2, x3] ++ List.replicate (p.length - i) 0).getD j 0 = [x0, x1, x2, x3].getD (j - i) 0 := by
          rw [List.append_assoc]
          simp only [List.getD]
          rw [List.getElem?_append_right (by simp; omega), List.length_replicate, List.getElem?_append_left (by simp; omega)]
        rw [if_pos (by omega), e2, show k + j - (k + i) = j - i by omega, Int.toNat_natCast]
      · have e2 : (List.replicate i (0 : Int) ++ [x0, x1, x2, x3] ++ List.replicate (p.length - i) 0).getD j 0 = 0 := by
          simp only [List.getD]
          rw [List.getElem?_append_right (by simp; omega)]
          simp only [List.getElem?_replicate]
          split <;> rfl
        rw [if_neg (by omega), e2]
        simp
end Fr
end Go.Proofs.Ytahocgmaeokoaaa
