/- The plain arithmetic of layer 4: the frame of a payload; reading frames; a beginning of frames. No program, no memory. -/
import Derived.Test.YtahocgmaeokoaaaFrMath
namespace Go.Proofs.Ytahocgmaeokoaaa
namespace Fr
/-- The frame of a payload. -/
def frame (p : List Int) : List Int := Nm.vd p.length ++ p ++ le4 (sum p)
/-- The frame that bytes begin with: its payload and how long it is. -/
def openF (b : List Int) : Option (List Int × Nat) :=
  if (Nm.getL b).2.2 ≠ 0 ∨ 65536 < (Nm.getL b).1 then none
  else if b.length < (Nm.getL b).2.1.toNat + (Nm.getL b).1.toNat + 4 then none
  else if le4 (sum ((b.drop (Nm.getL b).2.1.toNat).take (Nm.getL b).1.toNat)) = (b.drop ((Nm.getL b).2.1.toNat + (Nm.getL b).1.toNat)).take 4 then
    some ((b.drop (Nm.getL b).2.1.toNat).take (Nm.getL b).1.toNat, (Nm.getL b).2.1.toNat + (Nm.getL b).1.toNat + 4)
  else none
/-- Reading at most f frames: the payloads, and how many bytes. -/
def rdF : Nat → List Int → List (List Int) × Nat
  | 0, _ => ([], 0)
  | f + 1, b => match openF b with
    | none => ([], 0)
    | some (p, s) => (p :: (rdF f (b.drop s)).1, s + (rdF f (b.drop s)).2)
/-- Reading all frames that bytes begin with. -/
def rd (b : List Int) : List (List Int) × Nat := rdF (b.length + 1) b

theorem le4_len (n : Nat) : (le4 n).length = 4 := rfl
theorem le4_byt (n : Nat) : Nm.Byt (le4 n) := by
  intro x hx
  simp only [le4, List.mem_cons, List.not_mem_nil, or_false] at hx
  omega
theorem openF_le {b p : List Int} {s : Nat} (h : openF b = some (p, s)) : 4 ≤ s ∧ s ≤ b.length ∧ p.length + 4 ≤ s ∧ p.length ≤ 65536 := by
  unfold openF at h
  split at h
  · cases h
  · rename_i h0
    split at h
    · cases h
    · rename_i h1
      split at h
      · simp only [Option.some.injEq, Prod.mk.injEq] at h
        obtain ⟨rfl, rfl⟩ := h
        simp only [List.length_take, List.length_drop]
        omega
      · cases h
theorem rdF_more : ∀ (f g : Nat) (b : List Int), b.length < f → b.length < g → rdF f b = rdF g b
  | 0, _, _, h, _ => by omega
  | _ + 1, 0, _, _, h => by omega
  | f + 1, g + 1, b, h1, h2 => by
    rw [rdF, rdF]
    cases ho : openF b with
    | none => rfl
    | some q =>
      obtain ⟨p, s⟩ := q
      have hs := openF_le ho
      have e := rdF_more f g (b.drop s) (by simp; omega) (by simp; omega)
      simp only [e]
theorem rd_none {b : List Int} (h : openF b = none) : rd b = ([], 0) := by
  unfold rd
  rw [rdF, h]
theorem rd_some {b p : List Int} {s : Nat} (h : openF b = some (p, s)) : rd b = (p :: (rd (b.drop s)).1, s + (rd (b.drop s)).2) := by
  have hs := openF_le h
  unfold rd
  rw [rdF, h]
  simp only [rdF_more b.length ((b.drop s).length + 1) (b.drop s) (by simp; omega) (by omega)]
theorem openF_nil : openF [] = none := by
  unfold openF
  rw [if_pos (by left; decide)]

/-- Reading of what was framed, whatever stands behind. -/
theorem openF_frame (p more : List Int) (hp : p.length ≤ 65536) : openF (frame p ++ more) = some (p, (frame p).length) := by
  have hg : Nm.getL (frame p ++ more) = ((p.length : Int), ((Nm.vd p.length).length : Int), 0) := by
    unfold frame
    rw [List.append_assoc, List.append_assoc]
    unfold Nm.getL
    rw [Nm.gv_vd _ _ (by omega) (by omega)]
    exact if_neg (show ¬ 9223372036854775807 < (p.length : Int) by omega)
  unfold openF
  rw [hg]
  simp only [Int.toNat_natCast]
  rw [if_neg (by simp; omega), if_neg (by simp [frame, le4_len]; omega)]
  have e0 : frame p ++ more = Nm.vd p.length ++ (p ++ (le4 (sum p) ++ more)) := by simp [frame]
  have e1 : ((frame p ++ more).drop (Nm.vd p.length).length).take p.length = p := by
    rw [e0, List.drop_left, List.take_left]
  have e2 : ((frame p ++ more).drop ((Nm.vd p.length).length + p.length)).take 4 = le4 (sum p) := by
    rw [e0, ← List.drop_drop, List.drop_left, List.drop_left]
    exact List.take_left' (le4_len _)
  rw [e1, e2, if_pos rfl]
  simp only [frame, List.length_append, le4_len]
theorem rd_frame (p more : List Int) (hp : p.length ≤ 65536) : rd (frame p ++ more) = (p :: (rd more).1, (frame p).length + (rd more).2) := by
  rw [rd_some (openF_frame p more hp), List.drop_left]

/-- Whether a frame stands at the beginning is asked of the whole, or of its checksum alone. -/
theorem frame_iff {b p : List Int} {k N : Nat} (hv : b.take k = Nm.vd (N : Int)) (hl : k + N + 4 ≤ b.length) (hp : p = (b.drop k).take N) : frame p = b.take (k + N + 4) ↔ le4 (sum p) = (b.drop (k + N)).take 4 := by
  have hpl : p.length = N := by rw [hp, List.length_take, List.length_drop]; omega
  have e : b.take (k + N + 4) = Nm.vd (N : Int) ++ p ++ (b.drop (k + N)).take 4 := by
    rw [hp, ← hv, List.take_add, List.take_add, List.append_assoc]
  rw [e]
  unfold frame
  rw [hpl]
  exact List.append_right_inj _

/-- A beginning of a frame that is not all of it is none. -/
theorem openF_cut (p : List Int) (hp : p.length ≤ 65536) (k : Nat) (hk : k < (frame p).length) : openF ((frame p).take k) = none := by
  have hv := Nm.gv_vd (p.length : Int) [] (by omega) (by omega)
  rw [List.append_nil] at hv
  have hB : Nm.Byt (Nm.vd (p.length : Int)) := Nm.vd_byt _ (by omega) (by omega)
  obtain ⟨j, u, h1, _, h3, _, _, _, h4, h5⟩ := Nm.gv_only _ hB (by rw [hv])
  have hj : j = (Nm.vd (p.length : Int)).length := by
    rw [hv] at h1
    simp only [Prod.mk.injEq] at h1
    omega
  rcases Nat.lt_or_ge k j with q | q
  · have e : (frame p).take k = (Nm.vd (p.length : Int)).take k := by
      unfold frame
      rw [List.append_assoc, List.take_append_of_le_length (by omega)]
    unfold openF
    rw [e]
    refine if_pos (.inl ?_)
    unfold Nm.getL
    rw [h5 k q]
    decide
  · have e : (frame p).take k = Nm.vd (p.length : Int) ++ (p ++ le4 (sum p)).take (k - j) := by
      unfold frame
      rw [List.append_assoc, List.take_append, List.take_of_length_le (by omega), ← hj]
    have hg : Nm.getL ((frame p).take k) = ((p.length : Int), ((Nm.vd p.length).length : Int), 0) := by
      rw [e]
      unfold Nm.getL
      rw [Nm.gv_vd _ _ (by omega) (by omega)]
      exact if_neg (show ¬ 9223372036854775807 < (p.length : Int) by omega)
    unfold openF
    rw [hg]
    simp only [Int.toNat_natCast]
    rw [if_neg (by simp; omega), if_pos]
    have : (frame p).length = (Nm.vd (p.length : Int)).length + p.length + 4 := by simp [frame, le4_len]; omega
    rw [List.length_take]
    omega
end Fr
end Go.Proofs.Ytahocgmaeokoaaa
