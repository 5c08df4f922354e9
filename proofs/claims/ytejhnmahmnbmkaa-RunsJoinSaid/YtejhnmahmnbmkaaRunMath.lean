/- The plain mathematics of layer 3: runs of a list, deltas and sums, the three ways to write a list, which of them is taken. No program, no memory. -/
import Derived.Test.YtejhnmahmnbmkaaNumMath
namespace Go.Proofs.Ytejhnmahmnbmkaa
namespace Rn
open Nm

/-- A number fits 64 bits with a sign. -/
def Fit (x : Int) : Prop := -9223372036854775808 ≤ x ∧ x ≤ 9223372036854775807
def Fits (l : List Int) : Prop := ∀ x, x ∈ l → Fit x
/-- The remainder modulo 2^64, from -2^63 on. -/
def wr (x : Int) : Int := (x + 9223372036854775808) % 18446744073709551616 - 9223372036854775808
theorem wr_fit (x : Int) : Fit (wr x) := by unfold Fit wr; omega
theorem wr_id {x : Int} (h : Fit x) : wr x = x := by unfold Fit at h; unfold wr; omega
theorem wr_sum (p x : Int) (h : Fit x) : wr (p + wr (x - p)) = x := by unfold Fit at h; unfold wr; omega
theorem wr_dif (p x : Int) (h : Fit x) : wr (wr (p + x) - p) = x := by unfold Fit at h; unfold wr; omega
theorem wr_zero {x : Int} (h : Fit x) : wr (x - 0) = x := by rw [Int.sub_zero]; exact wr_id h

/-! ### Runs: a list of (value, how often) -/
abbrev Rs := List (Int × Int)
/-- One number more behind. -/
def addR (r : Rs) (x : Int) : Rs := match r.getLast? with
  | some (v, n) => if v = x then r.dropLast ++ [(v, n + 1)] else r ++ [(x, 1)]
  | none => [(x, 1)]
def runs (l : List Int) : Rs := l.foldl addR []
/-- The value of the last run is not x. -/
def Apart (r : Rs) (x : Int) : Prop := ∀ v n, r.getLast? = some (v, n) → v ≠ x
theorem addR_same (r : Rs) (x n : Int) : addR (r ++ [(x, n)]) x = r ++ [(x, n + 1)] := by simp [addR]
theorem addR_new {r : Rs} {x : Int} (h : Apart r x) : addR r x = r ++ [(x, 1)] := by
  unfold addR
  rcases hl : r.getLast? with _ | ⟨v, n⟩
  · have : r = [] := by simpa using hl
    simp [this]
  · simp only [if_neg (h v n hl)]
theorem apart_nil (x : Int) : Apart [] x := fun v n h => by simp at h
theorem apart_snoc (r : Rs) (v n x : Int) (h : v ≠ x) : Apart (r ++ [(v, n)]) x := fun v' n' h' => by
  simp at h'; obtain ⟨rfl, _⟩ := h'; exact h
/-- What the last run of a list that ends in v is. -/
theorem addR_last (r : Rs) (x : Int) : ∃ r' n, addR r x = r' ++ [(x, n)] := by
  unfold addR
  rcases hl : r.getLast? with _ | ⟨v, n⟩
  · exact ⟨[], 1, rfl⟩
  · by_cases h : v = x
    · simp only [if_pos h]; exact ⟨r.dropLast, n + 1, by rw [h]⟩
    · simp only [if_neg h]; exact ⟨r, 1, rfl⟩
theorem runs_snoc (l : List Int) (x : Int) : runs (l ++ [x]) = addR (runs l) x := by simp [runs]
theorem runs_last (l : List Int) (v : Int) : ∃ r n, runs (l ++ [v]) = r ++ [(v, n)] := by rw [runs_snoc]; exact addR_last _ _
/-- A row of alike numbers behind. -/
theorem runs_row (l : List Int) (x : Int) (k : Nat) (h : Apart (runs l) x) : runs (l ++ List.replicate (k + 1) x) = runs l ++ [(x, ((k + 1 : Nat) : Int))] := by
  induction k with
  | zero => rw [show List.replicate (0 + 1) x = [x] from rfl, runs_snoc, addR_new h]; rfl
  | succ k ih => rw [List.replicate_succ', ← List.append_assoc, runs_snoc, ih, addR_same]; simp
theorem runs_apart (l : List Int) (v x : Int) (h : v ≠ x) : Apart (runs (l ++ [v])) x := by
  obtain ⟨r, n, e⟩ := runs_last l v
  rw [e]; exact apart_snoc r v n x h
/-- The list that runs make up. -/
def flat (r : Rs) : List Int := r.flatMap fun p => List.replicate p.2.toNat p.1
theorem flat_app (r s : Rs) : flat (r ++ s) = flat r ++ flat s := by simp [flat]
theorem flat_one (v n : Int) : flat [(v, n)] = List.replicate n.toNat v := by simp [flat]
/-- Each run has one number at least. -/
def Pos (r : Rs) : Prop := ∀ p, p ∈ r → 1 ≤ p.2
theorem pos_addR {r : Rs} (h : Pos r) (x : Int) : Pos (addR r x) := by
  unfold addR
  rcases hl : r.getLast? with _ | ⟨v, n⟩
  · intro p hp; simp at hp; subst hp; exact Int.le_refl _
  · have hm := List.mem_of_getLast? hl
    by_cases e : v = x
    · simp only [if_pos e]
      intro p hp
      rcases List.mem_append.1 hp with q | q
      · exact h p (List.dropLast_subset r q)
      · simp at q; subst q; have := h _ hm; simp at this ⊢; omega
    · simp only [if_neg e]
      intro p hp
      rcases List.mem_append.1 hp with q | q
      · exact h p q
      · simp at q; subst q; exact Int.le_refl _
theorem snoc_ind {P : List Int → Prop} (h0 : P []) (hs : ∀ l x, P l → P (l ++ [x])) (l : List Int) : P l := by
  have : ∀ m : List Int, P m.reverse := by
    intro m
    induction m with
    | nil => exact h0
    | cons x m ih => rw [List.reverse_cons]; exact hs _ _ ih
  have h := this l.reverse
  rwa [List.reverse_reverse] at h
theorem runs_pos (l : List Int) : Pos (runs l) := by
  induction l using snoc_ind with
  | h0 => intro p hp; simp [runs] at hp
  | hs l x ih => rw [runs_snoc]; exact pos_addR ih x
theorem flat_addR {r : Rs} (h : Pos r) (x : Int) : flat (addR r x) = flat r ++ [x] := by
  unfold addR
  rcases hl : r.getLast? with _ | ⟨v, n⟩
  · have : r = [] := by simpa using hl
    subst this; rfl
  · have hm := h _ (List.mem_of_getLast? hl)
    obtain ⟨r', e'⟩ := List.getLast?_eq_some_iff.1 hl
    subst e'
    by_cases e : v = x
    · subst e
      simp only [if_true, List.dropLast_concat, flat_app, flat_one, List.append_assoc]
      have : (n + 1).toNat = n.toNat + 1 := by simp at hm; omega
      rw [this, List.replicate_succ']
    · simp only [if_neg e, flat_app, flat_one]; rfl
theorem flat_runs (l : List Int) : flat (runs l) = l := by
  induction l using snoc_ind with
  | h0 => rfl
  | hs l x ih => rw [runs_snoc, flat_addR (runs_pos l), ih]
theorem runs_len (l : List Int) : (runs l).length ≤ l.length := by
  induction l using snoc_ind with
  | h0 => simp [runs]
  | hs l x ih =>
    rw [runs_snoc]
    unfold addR
    rcases hl : (runs l).getLast? with _ | ⟨v, n⟩
    · simp
    · have hp : 0 < (runs l).length := List.length_pos_of_mem (List.mem_of_getLast? hl)
      by_cases e : v = x
      · simp only [if_pos e]; simp; omega
      · simp only [if_neg e]; simp; omega
/-- The values of the runs are among the list's numbers, and none is longer than the list. -/
theorem runs_mem (l : List Int) : ∀ p, p ∈ runs l → p.1 ∈ l ∧ p.2 ≤ l.length := by
  intro p hp
  have h1 := runs_pos l p hp
  have h2 := flat_runs l
  obtain ⟨a, b, e⟩ := List.append_of_mem hp
  rw [e, flat_app, show p :: b = [p] ++ b from rfl, flat_app, show [p] = [(p.1, p.2)] from rfl, flat_one] at h2
  have h3 := congrArg List.length h2
  simp at h3
  refine ⟨?_, by omega⟩
  rw [← h2]
  have : p.1 ∈ List.replicate p.2.toNat p.1 := by rw [List.mem_replicate]; exact ⟨by omega, rfl⟩
  simp [this]

/-- The error's number of Flat, t numbers being there already. -/
def flE : Nat → Rs → Int
  | _, [] => 0
  | t, p :: r => if p.2 < 1 then 1 else if 4096 - (t : Int) < p.2 then 2 else flE (t + p.2.toNat) r
def flL (r : Rs) : List Int := if flE 0 r = 0 then flat r else []
theorem drop_get (r : Rs) (k : Nat) (hk : k < r.length) : r.drop k = r.getD k (0, 0) :: r.drop (k + 1) := by
  rw [List.drop_eq_getElem_cons hk]; simp [List.getD, hk]
theorem flE_ok (r : Rs) : ∀ t : Nat, Pos r → t + (flat r).length ≤ 4096 → flE t r = 0 := by
  induction r with
  | nil => intro t _ _; rfl
  | cons p r ih =>
    intro t hp h
    have h1 := hp p (by simp)
    rw [show p :: r = [p] ++ r from rfl, flat_app, show [p] = [(p.1, p.2)] from rfl, flat_one] at h
    simp only [List.length_append, List.length_replicate] at h
    rw [flE, if_neg (by omega), if_neg (by omega)]
    exact ih _ (fun q hq => hp q (by simp [hq])) (by omega)
theorem flL_runs (l : List Int) (h : l.length ≤ 4096) : flL (runs l) = l ∧ flE 0 (runs l) = 0 := by
  have e := flE_ok (runs l) 0 (runs_pos l) (by rw [flat_runs]; omega)
  exact ⟨by unfold flL; rw [if_pos e, flat_runs], e⟩

/-! ### Deltas and sums -/
def dlF : Int → List Int → List Int
  | _, [] => []
  | p, x :: l => wr (x - p) :: dlF x l
def deltas (l : List Int) : List Int := dlF 0 l
def smF : Int → List Int → List Int
  | _, [] => []
  | s, x :: l => wr (s + x) :: smF (wr (s + x)) l
def sums (l : List Int) : List Int := smF 0 l
theorem dlF_len (l : List Int) : ∀ p, (dlF p l).length = l.length := by
  induction l with
  | nil => intro p; rfl
  | cons x l ih => intro p; simp [dlF, ih]
theorem smF_len (l : List Int) : ∀ p, (smF p l).length = l.length := by
  induction l with
  | nil => intro p; rfl
  | cons x l ih => intro p; simp [smF, ih]
theorem deltas_len (l : List Int) : (deltas l).length = l.length := dlF_len l 0
theorem sums_len (l : List Int) : (sums l).length = l.length := smF_len l 0
theorem dlF_fits (l : List Int) : ∀ p, Fits (dlF p l) := by
  induction l with
  | nil => intro p x hx; simp [dlF] at hx
  | cons y l ih =>
    intro p x hx
    rcases List.mem_cons.1 hx with rfl | hx
    · exact wr_fit _
    · exact ih y x hx
theorem deltas_fits (l : List Int) : Fits (deltas l) := dlF_fits l 0
theorem smF_fits (l : List Int) : ∀ p, Fits (smF p l) := by
  induction l with
  | nil => intro p x hx; simp [smF] at hx
  | cons y l ih =>
    intro p x hx
    rcases List.mem_cons.1 hx with rfl | hx
    · exact wr_fit _
    · exact ih _ x hx
theorem sums_fits (l : List Int) : Fits (sums l) := smF_fits l 0
theorem smF_dlF (l : List Int) : ∀ p, Fits l → smF p (dlF p l) = l := by
  induction l with
  | nil => intro p _; rfl
  | cons x l ih =>
    intro p h
    rw [dlF, smF, wr_sum p x (h x (by simp)), ih x (fun y hy => h y (by simp [hy]))]
theorem dlF_smF (l : List Int) : ∀ p, Fits l → dlF p (smF p l) = l := by
  induction l with
  | nil => intro p _; rfl
  | cons x l ih =>
    intro p h
    rw [smF, dlF, wr_dif p x (h x (by simp)), ih _ (fun y hy => h y (by simp [hy]))]
theorem sums_deltas (l : List Int) (h : Fits l) : sums (deltas l) = l := smF_dlF l 0 h
theorem deltas_sums (l : List Int) (h : Fits l) : deltas (sums l) = l := dlF_smF l 0 h
/-- The number ahead of place k (0 ahead of the first). -/
def prev (l : List Int) (k : Nat) : Int := if k = 0 then 0 else l.getD (k - 1) 0
theorem dlF_get (l : List Int) : ∀ (p : Int) (k : Nat), k < l.length → (dlF p l).getD k 0 = wr (l.getD k 0 - if k = 0 then p else l.getD (k - 1) 0) := by
  induction l with
  | nil => intro p k hk; simp at hk
  | cons x l ih =>
    intro p k hk
    cases k with
    | zero => simp [dlF]
    | succ k =>
      simp only [List.length_cons] at hk
      have := ih x k (by omega)
      rw [dlF, List.getD_cons_succ, this, List.getD_cons_succ, if_neg (show ¬ k + 1 = 0 by omega)]
      cases k with
      | zero => simp
      | succ k => simp
theorem deltas_get (l : List Int) (k : Nat) (hk : k < l.length) : (deltas l).getD k 0 = wr (l.getD k 0 - prev l k) := dlF_get l 0 k hk
theorem smF_get (l : List Int) : ∀ (p : Int) (k : Nat), k < l.length → (smF p l).getD k 0 = wr ((if k = 0 then p else (smF p l).getD (k - 1) 0) + l.getD k 0) := by
  induction l with
  | nil => intro p k hk; simp at hk
  | cons x l ih =>
    intro p k hk
    cases k with
    | zero => simp [smF]
    | succ k =>
      simp only [List.length_cons] at hk
      have := ih (wr (p + x)) k (by omega)
      rw [smF, List.getD_cons_succ, this, List.getD_cons_succ, if_neg (show ¬ k + 1 = 0 by omega)]
      cases k with
      | zero => simp
      | succ k => simp
theorem sums_get (l : List Int) (k : Nat) (hk : k < l.length) : (sums l).getD k 0 = wr (prev (sums l) k + l.getD k 0) := smF_get l 0 k hk

/-! ### The three ways to write a list -/
def plain (l : List Int) : List Int := l.flatMap fun x => vd (zz x)
def runB (r : Rs) : List Int := r.flatMap fun p => vd (zz p.1) ++ vd p.2
theorem take_next {α : Type} (l : List α) (k : Nat) (d : α) (hk : k < l.length) : l.take (k + 1) = l.take k ++ [l.getD k d] := by
  rw [List.take_succ_eq_append_getElem hk]
  simp [List.getD, hk]
theorem plain_next (l : List Int) (k : Nat) (hk : k < l.length) : plain (l.take (k + 1)) = plain (l.take k) ++ vd (zz (l.getD k 0)) := by
  rw [take_next l k 0 hk]; simp only [plain, List.flatMap_append, List.flatMap_cons, List.flatMap_nil, List.append_nil]
theorem runB_snoc (r : Rs) (v n : Int) : runB (r ++ [(v, n)]) = runB r ++ (vd (zz v) ++ vd n) := by
  simp only [runB, List.flatMap_append, List.flatMap_cons, List.flatMap_nil, List.append_nil]
theorem plain_app (l m : List Int) : plain (l ++ m) = plain l ++ plain m := by simp only [plain, List.flatMap_append]
/-- What stands behind the first k of them. -/
theorem plain_drop (l : List Int) (k : Nat) (hk : k < l.length) (more : List Int) : (plain l ++ more).drop (plain (l.take k)).length = vd (zz (l.getD k 0)) ++ (plain (l.drop (k + 1)) ++ more) := by
  have e : plain l = plain (l.take k) ++ (vd (zz (l.getD k 0)) ++ plain (l.drop (k + 1))) := by
    have h : l = l.take (k + 1) ++ l.drop (k + 1) := (List.take_append_drop _ _).symm
    have h2 := congrArg plain h
    rw [plain_app, plain_next l k hk, List.append_assoc] at h2
    exact h2
  rw [e, List.append_assoc, List.drop_left, List.append_assoc]
theorem runB_app (r s : Rs) : runB (r ++ s) = runB r ++ runB s := by simp only [runB, List.flatMap_append]
theorem runB_next (r : Rs) (k : Nat) (hk : k < r.length) : runB (r.take (k + 1)) = runB (r.take k) ++ (vd (zz (r.getD k (0, 0)).1) ++ vd (r.getD k (0, 0)).2) := by
  rw [take_next r k (0, 0) hk, runB_app]; simp only [runB, List.flatMap_cons, List.flatMap_nil, List.append_nil]
theorem runB_drop (r : Rs) (k : Nat) (hk : k < r.length) (more : List Int) : (runB r ++ more).drop (runB (r.take k)).length = vd (zz (r.getD k (0, 0)).1) ++ (vd (r.getD k (0, 0)).2 ++ (runB (r.drop (k + 1)) ++ more)) := by
  have h : r = r.take (k + 1) ++ r.drop (k + 1) := (List.take_append_drop _ _).symm
  have h2 := congrArg runB h
  rw [runB_app, runB_next r k hk, List.append_assoc] at h2
  rw [h2, List.append_assoc, List.drop_left]
  simp only [List.append_assoc]
theorem flat_next (r : Rs) (k : Nat) (hk : k < r.length) : flat (r.take (k + 1)) = flat (r.take k) ++ List.replicate (r.getD k (0, 0)).2.toNat (r.getD k (0, 0)).1 := by
  rw [take_next r k (0, 0) hk, flat_app]
  congr 1
  exact flat_one _ _
theorem flat_take_len (r : Rs) (k : Nat) : (flat (r.take k)).length ≤ (flat r).length := by
  have h := congrArg List.length (congrArg flat (List.take_append_drop k r))
  rw [flat_app, List.length_append] at h
  omega
/-- What stands behind the number of integers, by the kind. -/
def body (l : List Int) : Nat → List Int
  | 0 => plain l
  | 1 => runB (runs l)
  | _ => plain (deltas l)
/-- The kind that is taken of the first k. -/
def bi (l : List Int) : Nat → Nat
  | 0 => 0
  | k + 1 => if (body l k).length < (body l (bi l k)).length then k else bi l k
theorem bi_le (l : List Int) : ∀ k, bi l (k + 1) ≤ k := by
  intro k
  induction k with
  | zero => simp [bi]
  | succ k ih => rw [bi]; split <;> omega
theorem bi_one (l : List Int) : bi l 1 = 0 := Nat.le_zero.1 (bi_le l 0)
theorem bi_least (l : List Int) : ∀ k j, j < k → (body l (bi l k)).length ≤ (body l j).length := by
  intro k
  induction k with
  | zero => intro j h; omega
  | succ k ih =>
    intro j hj
    rw [bi]
    split
    · rename_i h
      rcases Nat.lt_or_ge j k with q | q
      · have := ih j q; omega
      · obtain rfl : j = k := by omega
        exact Nat.le_refl _
    · rename_i h
      rcases Nat.lt_or_ge j k with q | q
      · exact ih j q
      · obtain rfl : j = k := by omega
        omega
def block (l : List Int) (k : Nat) : List Int := ((k : Int) :: vd l.length) ++ body l k
def enc (l : List Int) : List Int := block l (bi l 3)
theorem block_len (l : List Int) (k : Nat) : (block l k).length = 1 + (vd l.length).length + (body l k).length := by simp [block]; omega

theorem byt_app {a b : List Int} (ha : Byt a) (hb : Byt b) : Byt (a ++ b) := fun x hx => by
  rcases List.mem_append.1 hx with q | q
  · exact ha x q
  · exact hb x q
theorem plain_byt {l : List Int} (h : Fits l) : Byt (plain l) := by
  intro x hx
  obtain ⟨y, hy, hx⟩ := List.mem_flatMap.1 hx
  exact vd_byt (zz y) (zz_lo y) (zz_hi y (h y hy).1 (h y hy).2) x hx
/-- Runs of numbers that fit. -/
def FitR (r : Rs) : Prop := ∀ p, p ∈ r → Fit p.1 ∧ 1 ≤ p.2 ∧ p.2 ≤ 4096
theorem runs_fit {l : List Int} (h : Fits l) (hl : l.length ≤ 4096) : FitR (runs l) := fun p hp => by
  have := runs_mem l p hp
  exact ⟨h _ this.1, runs_pos l p hp, by omega⟩
theorem runB_byt {r : Rs} (h : FitR r) : Byt (runB r) := by
  intro x hx
  obtain ⟨p, hp, hx⟩ := List.mem_flatMap.1 hx
  obtain ⟨h1, h2, h3⟩ := h p hp
  exact byt_app (vd_byt (zz p.1) (zz_lo p.1) (zz_hi p.1 h1.1 h1.2)) (vd_byt p.2 (by omega) (by omega)) x hx
theorem body_byt {l : List Int} (h : Fits l) (hl : l.length ≤ 4096) : ∀ k, Byt (body l k)
  | 0 => plain_byt h
  | 1 => runB_byt (runs_fit h hl)
  | _ + 2 => plain_byt (deltas_fits l)
theorem block_byt {l : List Int} (h : Fits l) (hl : l.length ≤ 4096) (k : Nat) (hk : k ≤ 255) : Byt (block l k) := by
  refine byt_app ?_ (body_byt h hl k)
  intro x hx
  rcases List.mem_cons.1 hx with rfl | hx
  · omega
  · exact vd_byt _ (by omega) (by omega) x hx
theorem plain_len (l : List Int) : l.length ≤ (plain l).length ∧ (plain l).length ≤ 10 * l.length := by
  induction l with
  | nil => simp [plain]
  | cons x l ih =>
    have := vd_len (zz x)
    have e : plain (x :: l) = vd (zz x) ++ plain l := rfl
    rw [e]; simp; omega
theorem runB_len (r : Rs) : (runB r).length ≤ 20 * r.length := by
  induction r with
  | nil => simp [runB]
  | cons p r ih =>
    have h1 := vd_len (zz p.1)
    have h2 := vd_len p.2
    have e : runB (p :: r) = (vd (zz p.1) ++ vd p.2) ++ runB r := rfl
    rw [e]; simp; omega
theorem body_len (l : List Int) : ∀ k, (body l k).length ≤ 20 * l.length
  | 0 => by have := (plain_len l).2; show (plain l).length ≤ _; omega
  | 1 => by have := runB_len (runs l); have := runs_len l; show (runB (runs l)).length ≤ _; omega
  | _ + 2 => by have := (plain_len (deltas l)).2; rw [deltas_len] at this; show (plain (deltas l)).length ≤ _; omega
theorem block_le (l : List Int) (k : Nat) : (block l k).length ≤ 11 + 20 * l.length := by
  rw [block_len]; have := body_len l k; have := (vd_len l.length).2; omega
theorem block_ge (l : List Int) (k : Nat) : 2 ≤ (block l k).length := by
  rw [block_len]; have := (vd_len l.length).1; omega
end Rn
end Go.Proofs.Ytejhnmahmnbmkaa
