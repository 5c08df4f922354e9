/- Stable sorting in plain words: places by a three-way comparison, and where it knows no difference by their number. No program, no memory. -/
namespace Go.Proofs.YtoibpbnebcoafaaGreat
set_option maxRecDepth 20000
namespace Ssm
/-- A three-way comparison that is an order of what it tells apart. -/
structure Wk (cf : Nat → Nat → Int) : Prop where
  neg : ∀ x y, cf x y = -cf y x
  tr : ∀ x y z, cf x y ≤ 0 → cf y z ≤ 0 → cf x z ≤ 0
/-- x stands ahead of y, or is y. -/
def Le (cf : Nat → Nat → Int) (x y : Nat) : Prop := cf x y < 0 ∨ (cf x y = 0 ∧ x ≤ y)
instance (cf : Nat → Nat → Int) (x y : Nat) : Decidable (Le cf x y) := by unfold Le; infer_instance
/-- It is sorted. -/
def So (cf : Nat → Nat → Int) (l : List Nat) : Prop := l.Pairwise (Le cf)
/-- The list, sorted. -/
def srt (cf : Nat → Nat → Int) (l : List Nat) : List Nat := l.mergeSort fun a b => decide (Le cf a b)
theorem srt_perm (cf : Nat → Nat → Int) (l : List Nat) : (srt cf l).Perm l := List.mergeSort_perm _ _
theorem srt_len (cf : Nat → Nat → Int) (l : List Nat) : (srt cf l).length = l.length := (srt_perm cf l).length_eq
theorem srt_mem {cf : Nat → Nat → Int} {l : List Nat} {x : Nat} : x ∈ srt cf l ↔ x ∈ l := (srt_perm cf l).mem_iff
theorem take_mem {l : List Nat} {t x : Nat} (h : x ∈ l.take t) : ∃ i, i < t ∧ i < l.length ∧ x = l.getD i 0 := by
  obtain ⟨i, hi, rfl⟩ := List.mem_iff_getElem.1 h
  rw [List.length_take] at hi
  exact ⟨i, by omega, by omega, by simp [List.getD, List.getElem?_eq_getElem (show i < l.length by omega)]⟩
theorem drop_mem {l : List Nat} {t x : Nat} (h : x ∈ l.drop t) : ∃ i, t ≤ i ∧ i < l.length ∧ x = l.getD i 0 := by
  obtain ⟨i, hi, rfl⟩ := List.mem_iff_getElem.1 h
  rw [List.length_drop] at hi
  exact ⟨t + i, by omega, by omega, by simp [List.getD, List.getElem?_eq_getElem (show t + i < l.length by omega)]⟩
section
variable {cf : Nat → Nat → Int} (W : Wk cf)
include W
theorem Wk.self (x : Nat) : cf x x = 0 := by have := W.neg x x; omega
theorem Wk.total (x y : Nat) : Le cf x y ∨ Le cf y x := by
  have := W.neg x y
  unfold Le
  omega
theorem Wk.le_tr {x y z : Nat} (h : Le cf x y) (k : Le cf y z) : Le cf x z := by
  unfold Le at *
  have n1 := W.neg x y
  have n2 := W.neg y z
  have n3 := W.neg x z
  have t := W.tr x y z (by omega) (by omega)
  by_cases e : cf x z = 0
  · have t1 := W.tr z x y (by omega) (by omega)
    have t2 := W.tr y z x (by omega) (by omega)
    omega
  · omega
theorem Wk.le_anti {x y : Nat} (h : Le cf x y) (k : Le cf y x) : x = y := by
  unfold Le at *
  have := W.neg x y
  omega
theorem Wk.le_self (x : Nat) : Le cf x x := .inr ⟨W.self x, Nat.le_refl _⟩
theorem Wk.le_of_not {x y : Nat} (h : ¬ cf y x < 0) (hxy : x ≤ y) : Le cf x y := by
  have := W.neg x y
  unfold Le
  omega
theorem Wk.le_iff {x y : Nat} (hxy : x ≤ y) : Le cf x y ↔ ¬ cf y x < 0 := by
  have := W.neg x y
  unfold Le
  omega
theorem srt_so (l : List Nat) : So cf (srt cf l) := by
  have := List.pairwise_mergeSort (le := fun a b => decide (Le cf a b)) (fun a b c h k => by
    simp only [decide_eq_true_eq] at *
    exact W.le_tr h k) (fun a b => by
    simp only [Bool.or_eq_true, decide_eq_true_eq]
    exact W.total a b) l
  unfold So srt
  exact this.imp fun h => by simpa using h
/-- What is sorted, and has the same, is the list sorted. -/
theorem srt_only {l m : List Nat} (h : m.Perm l) (hs : So cf m) : m = srt cf l :=
  (h.trans (srt_perm cf l).symm).eq_of_pairwise (fun _ _ _ _ h1 h2 => W.le_anti h1 h2) hs (srt_so W l)
theorem srt_congr {l m : List Nat} (h : m.Perm l) : srt cf m = srt cf l := srt_only W ((srt_perm cf m).trans h) (srt_so W m)
theorem srt_id {l : List Nat} (h : So cf l) : srt cf l = l := (srt_only W (List.Perm.refl l) h).symm
/-- Two parts, each of the one ahead of each of the other. -/
theorem srt_append {l m : List Nat} (h : ∀ x ∈ l, ∀ y ∈ m, Le cf x y) : srt cf (l ++ m) = srt cf l ++ srt cf m := by
  refine (srt_only W ((srt_perm cf l).append (srt_perm cf m)) ?_).symm
  refine List.pairwise_append.2 ⟨srt_so W l, srt_so W m, fun x hx y hy => h x ((srt_mem).1 hx) y ((srt_mem).1 hy)⟩
/-- An element goes to its place in what is sorted. -/
theorem ins_done {A B : List Nat} {e : Nat} (h : So cf (A ++ B)) (hB : ∀ b ∈ B, cf e b < 0) (hA : ∀ a ∈ A, a ≤ e) (hl : ∀ A' d, A = A' ++ [d] → ¬ cf e d < 0) : So cf (A ++ e :: B) := by
  obtain ⟨h1, h2, h3⟩ := List.pairwise_append.1 h
  refine List.pairwise_append.2 ⟨h1, List.pairwise_cons.2 ⟨fun b hb => .inl (hB b hb), h2⟩, fun a ha b hb => ?_⟩
  rcases List.mem_cons.1 hb with rfl | hb
  · rcases List.eq_nil_or_concat A with rfl | ⟨A', d, rfl⟩
    · cases ha
    · rw [List.concat_eq_append] at *
      have hd := hl A' d rfl
      have hde := W.le_of_not hd (hA d (by simp))
      rcases List.mem_append.1 ha with q | q
      · have : Le cf a d := by
          obtain ⟨_, _, h4⟩ := List.pairwise_append.1 h1
          exact h4 a q d (by simp)
        exact W.le_tr this hde
      · simp only [List.mem_singleton] at q
        subst q
        exact hde
  · exact h3 a ha b hb
end

/-- A test that falls once, and then stays: where it falls. -/
theorem exists_cut (pr : Nat → Bool) (lo : Nat) : ∀ k, (∀ c d, lo ≤ c → c ≤ d → d < lo + k → pr d = true → pr c = true) → ∃ t, lo ≤ t ∧ t ≤ lo + k ∧ ∀ c, lo ≤ c → c < lo + k → (pr c = true ↔ c < t)
  | 0, _ => ⟨lo, Nat.le_refl _, by omega, fun c h1 h2 => by omega⟩
  | k + 1, h => by
    obtain ⟨t, h1, h2, h3⟩ := exists_cut pr lo k (fun c d a b e => h c d a b (by omega))
    cases hq : pr (lo + k)
    · refine ⟨t, h1, by omega, fun c hc hck => ?_⟩
      by_cases e : c = lo + k
      · subst e
        rw [hq]
        simp
        omega
      · exact h3 c hc (by omega)
    · refine ⟨lo + k + 1, by omega, by omega, fun c hc hck => ?_⟩
      have := h c (lo + k) hc (by omega) (by omega) hq
      rw [this]
      simp
      omega
/-- The same between two ends. -/
theorem cut_at (pr : Nat → Bool) (lo hi : Nat) (hlh : lo ≤ hi) (h : ∀ c d, lo ≤ c → c ≤ d → d < hi → pr d = true → pr c = true) : ∃ t, lo ≤ t ∧ t ≤ hi ∧ ∀ c, lo ≤ c → c < hi → (pr c = true ↔ c < t) := by
  obtain ⟨k, rfl⟩ : ∃ k, hi = lo + k := ⟨hi - lo, by omega⟩
  exact exists_cut pr lo k h

section
variable {cf : Nat → Nat → Int} (W : Wk cf)
include W
theorem so_get {l : List Nat} (h : So cf l) {i j : Nat} (hij : i ≤ j) (hj : j < l.length) : Le cf (l.getD i 0) (l.getD j 0) := by
  by_cases e : i = j
  · subst e; exact W.le_self _
  have := List.pairwise_iff_getElem.1 h i j (by omega) hj (by omega)
  simpa [List.getD, List.getElem?_eq_getElem hj, List.getElem?_eq_getElem (show i < l.length by omega)] using this
/-- One element ahead of a sorted list: to behind all that come ahead of it. -/
theorem one_ahead {e : Nat} {R : List Nat} (hR : So cf R) (hi : ∀ y ∈ R, e ≤ y) {t : Nat} (h : ∀ c, c < R.length → (cf (R.getD c 0) e < 0 ↔ c < t)) : srt cf (e :: R) = R.take t ++ e :: R.drop t := by
  refine (srt_only W ?_ ?_).symm
  · refine List.Perm.trans List.perm_middle ?_
    rw [List.take_append_drop]
  · have hs := hR
    rw [← List.take_append_drop t R] at hs
    obtain ⟨h1, h2, h3⟩ := List.pairwise_append.1 hs
    refine List.pairwise_append.2 ⟨h1, List.pairwise_cons.2 ⟨fun y hy => ?_, h2⟩, fun x hx y hy => ?_⟩
    · obtain ⟨i, hi1, hi2, rfl⟩ := drop_mem hy
      refine W.le_of_not (fun q => ?_) (hi _ (by rw [List.getD_eq_getElem?_getD, List.getElem?_eq_getElem hi2]; exact List.getElem_mem hi2))
      have := (h i hi2).1 q
      omega
    · rcases List.mem_cons.1 hy with rfl | hy
      · obtain ⟨i, hi1, hi2, rfl⟩ := take_mem hx
        exact .inl ((h i hi2).2 hi1)
      · exact h3 x hx y hy
/-- The test of that search falls once. -/
theorem one_ahead_anti {e : Nat} {R : List Nat} (hR : So cf R) {c d : Nat} (hcd : c ≤ d) (hd : d < R.length) (h : cf (R.getD d 0) e < 0) : cf (R.getD c 0) e < 0 := by
  have hle := so_get W hR hcd hd
  unfold Le at hle
  have n1 := W.neg (R.getD d 0) e
  have n2 := W.neg (R.getD c 0) e
  have n3 := W.neg (R.getD c 0) (R.getD d 0)
  have t1 := W.tr (R.getD c 0) (R.getD d 0) e (by omega) (by omega)
  have t2 := W.tr e (R.getD c 0) (R.getD d 0)
  omega
/-- One element behind a sorted list: ahead of all that come behind it. -/
theorem one_behind {e : Nat} {L : List Nat} (hL : So cf L) (hi : ∀ x ∈ L, x ≤ e) {t : Nat} (h : ∀ c, c < L.length → (¬ cf e (L.getD c 0) < 0 ↔ c < t)) : srt cf (L ++ [e]) = L.take t ++ e :: L.drop t := by
  refine (srt_only W ?_ ?_).symm
  · refine List.Perm.trans List.perm_middle ?_
    rw [List.take_append_drop]
    exact (List.perm_append_singleton e L).symm
  · have hs := hL
    rw [← List.take_append_drop t L] at hs
    obtain ⟨h1, h2, h3⟩ := List.pairwise_append.1 hs
    refine List.pairwise_append.2 ⟨h1, List.pairwise_cons.2 ⟨fun y hy => ?_, h2⟩, fun x hx y hy => ?_⟩
    · obtain ⟨i, hi1, hi2, rfl⟩ := drop_mem hy
      have := h i hi2
      exact .inl (by omega)
    · rcases List.mem_cons.1 hy with rfl | hy
      · obtain ⟨i, hi1, hi2, rfl⟩ := take_mem hx
        have := h i hi2
        exact W.le_of_not (by omega) (hi _ (by rw [List.getD_eq_getElem?_getD, List.getElem?_eq_getElem hi2]; exact List.getElem_mem hi2))
      · exact h3 x hx y hy
theorem one_behind_anti {e : Nat} {L : List Nat} (hL : So cf L) {c d : Nat} (hcd : c ≤ d) (hd : d < L.length) (h : ¬ cf e (L.getD d 0) < 0) : ¬ cf e (L.getD c 0) < 0 := by
  have hle := so_get W hL hcd hd
  unfold Le at hle
  have n1 := W.neg (L.getD d 0) e
  have n2 := W.neg (L.getD c 0) e
  have t1 := W.tr (L.getD c 0) (L.getD d 0) e (by omega) (by omega)
  omega
/-- The symmetric cut of two sorted lists: what is ahead of it comes ahead of what is behind it. -/
theorem sym_split {L R : List Nat} (hL : So cf L) (hR : So cf R) (hi : ∀ x ∈ L, ∀ y ∈ R, x ≤ y) {s u : Nat} (hs : s ≤ L.length) (hu : u ≤ R.length)
    (h1 : s = 0 ∨ u = R.length ∨ ¬ cf (R.getD u 0) (L.getD (s - 1) 0) < 0) (h2 : s = L.length ∨ u = 0 ∨ cf (R.getD (u - 1) 0) (L.getD s 0) < 0) :
    srt cf (L ++ R) = srt cf (L.take s ++ R.take u) ++ srt cf (L.drop s ++ R.drop u) := by
  have hp : (L ++ R).Perm ((L.take s ++ R.take u) ++ (L.drop s ++ R.drop u)) := by
    have e : L ++ R = L.take s ++ (L.drop s ++ (R.take u ++ R.drop u)) := by
      rw [List.take_append_drop, ← List.append_assoc, List.take_append_drop]
    rw [e, List.append_assoc]
    refine List.Perm.append_left _ ?_
    rw [← List.append_assoc, ← List.append_assoc]
    exact List.Perm.append_right _ List.perm_append_comm
  rw [srt_congr W hp, srt_append W]
  have hmem : ∀ {l : List Nat} {i : Nat}, i < l.length → l.getD i 0 ∈ l := fun {l i} h => by
    rw [List.getD_eq_getElem?_getD, List.getElem?_eq_getElem h]
    exact List.getElem_mem h
  intro x hx y hy
  rcases List.mem_append.1 hx with hx | hx
  · obtain ⟨i, hi1, hi2, rfl⟩ := take_mem hx
    rcases List.mem_append.1 hy with hy | hy
    · obtain ⟨j, hj1, hj2, rfl⟩ := drop_mem hy
      exact so_get W hL (by omega) hj2
    · obtain ⟨j, hj1, hj2, rfl⟩ := drop_mem hy
      rcases h1 with q | q | q
      · omega
      · omega
      · have a1 := so_get W hL (i := i) (j := s - 1) (by omega) (by omega)
        have a2 := so_get W hR (i := u) (j := j) hj1 hj2
        exact W.le_tr a1 (W.le_tr (W.le_of_not q (hi _ (hmem (by omega)) _ (hmem (by omega)))) a2)
  · obtain ⟨i, hi1, hi2, rfl⟩ := take_mem hx
    rcases List.mem_append.1 hy with hy | hy
    · obtain ⟨j, hj1, hj2, rfl⟩ := drop_mem hy
      rcases h2 with q | q | q
      · omega
      · omega
      · have a1 := so_get W hR (i := i) (j := u - 1) (by omega) (by omega)
        have a2 := so_get W hL (i := s) (j := j) hj1 hj2
        exact W.le_tr a1 (W.le_tr (.inl q) a2)
    · obtain ⟨j, hj1, hj2, rfl⟩ := drop_mem hy
      exact so_get W hR (by omega) hj2
/-- The test of the symmetric search falls once. -/
theorem sym_anti {L R : List Nat} (hL : So cf L) (hR : So cf R) (hi : ∀ x ∈ L, ∀ y ∈ R, x ≤ y) {c d p q : Nat} (hcd : c ≤ d) (hd : d < L.length) (hpq : p ≤ q) (hq : q < R.length) (h : ¬ cf (R.getD p 0) (L.getD d 0) < 0) : ¬ cf (R.getD q 0) (L.getD c 0) < 0 := by
  have hmem : ∀ {l : List Nat} {i : Nat}, i < l.length → l.getD i 0 ∈ l := fun {l i} h => by
    rw [List.getD_eq_getElem?_getD, List.getElem?_eq_getElem h]
    exact List.getElem_mem h
  have a := W.le_tr (so_get W hL hcd hd) (W.le_tr (W.le_of_not h (hi _ (hmem hd) _ (hmem (by omega)))) (so_get W hR hpq hq))
  exact (W.le_iff (hi _ (hmem (by omega)) _ (hmem hq))).1 a
end

/-- The list in pieces of B, each sorted. -/
def chs (cf : Nat → Nat → Int) (B : Nat) (l : List Nat) : List Nat :=
  if _h : l = [] ∨ B = 0 then [] else srt cf (l.take B) ++ chs cf B (l.drop B)
termination_by l.length
decreasing_by
  have : l.length ≠ 0 := fun q => _h (.inl (List.eq_nil_of_length_eq_zero q))
  rw [List.length_drop]
  omega
theorem chs_nil (cf : Nat → Nat → Int) (B : Nat) : chs cf B [] = [] := by rw [chs]; simp
theorem chs_step (cf : Nat → Nat → Int) {B : Nat} (hB : 0 < B) {l : List Nat} (hl : l ≠ []) : chs cf B l = srt cf (l.take B) ++ chs cf B (l.drop B) := by
  rw [chs, dif_neg]
  rintro (h | h)
  · exact hl h
  · omega
theorem chs_append (cf : Nat → Nat → Int) {B : Nat} (hB : 0 < B) (Y : List Nat) : ∀ (q : Nat) (X : List Nat), X.length = q * B → chs cf B (X ++ Y) = chs cf B X ++ chs cf B Y
  | 0, X, h => by
    have : X = [] := List.eq_nil_of_length_eq_zero (by omega)
    subst this
    simp [chs_nil]
  | q + 1, X, h => by
    have hx : B ≤ X.length := by rw [h, Nat.add_mul]; omega
    have hX : X ≠ [] := by intro e; subst e; simp at hx; omega
    rw [chs_step cf hB (l := X ++ Y) (by simp [hX]), chs_step cf hB hX, List.take_append_of_le_length hx, List.drop_append_of_le_length hx,
      chs_append cf hB Y q (X.drop B) (by rw [List.length_drop, h, Nat.add_mul]; omega), List.append_assoc]
theorem chs_short (cf : Nat → Nat → Int) {B : Nat} {l : List Nat} (h : l.length ≤ B) : chs cf B l = srt cf l := by
  by_cases e : l = []
  · subst e
    rw [chs_nil]
    exact ((srt_perm cf []).eq_nil).symm
  · have : 0 < l.length := List.length_pos_iff.2 e
    rw [chs_step cf (by omega) e, List.take_of_length_le h, List.drop_of_length_le h, chs_nil, List.append_nil]
theorem chs_perm (cf : Nat → Nat → Int) {B : Nat} (hB : 0 < B) : ∀ (n : Nat) (l : List Nat), l.length ≤ n → (chs cf B l).Perm l
  | 0, l, h => by
    have : l = [] := List.eq_nil_of_length_eq_zero (by omega)
    subst this
    rw [chs_nil]
  | n + 1, l, h => by
    by_cases e : l = []
    · subst e; rw [chs_nil]
    · have : 0 < l.length := List.length_pos_iff.2 e
      rw [chs_step cf hB e]
      have h1 := (srt_perm cf (l.take B)).append (chs_perm cf hB n (l.drop B) (by rw [List.length_drop]; omega))
      rw [List.take_append_drop] at h1
      exact h1
theorem chs_len (cf : Nat → Nat → Int) {B : Nat} (hB : 0 < B) (l : List Nat) : (chs cf B l).length = l.length := (chs_perm cf hB l.length l (Nat.le_refl _)).length_eq
section
variable {cf : Nat → Nat → Int} (W : Wk cf)
include W
/-- Two sorted pieces, merged. -/
theorem srt_two (X Y : List Nat) : srt cf (srt cf X ++ srt cf Y) = srt cf (X ++ Y) := srt_congr W ((srt_perm cf X).append (srt_perm cf Y))
end

/-! Lists and their places. -/
theorem getD_at (X Y : List Nat) (e : Nat) : (X ++ e :: Y).getD X.length 0 = e := by simp [List.getD]
theorem getD_mid {X L Y : List Nat} {i : Nat} (h : i < L.length) : (X ++ (L ++ Y)).getD (X.length + i) 0 = L.getD i 0 := by
  simp only [List.getD]
  rw [List.getElem?_append_right (by omega), List.getElem?_append_left (by omega)]
  congr 2
  omega
/-- Two places change what they hold. -/
def swp (l : List Nat) (i j : Nat) : List Nat := (l.set i (l.getD j 0)).set j (l.getD i 0)
theorem swp_len (l : List Nat) (i j : Nat) : (swp l i j).length = l.length := by simp [swp]
theorem swp_next (X Y : List Nat) (d e : Nat) : swp (X ++ d :: e :: Y) (X.length + 1) X.length = X ++ e :: d :: Y := by
  unfold swp
  have h1 : (X ++ d :: e :: Y).getD X.length 0 = d := getD_at _ _ _
  have h2 : (X ++ d :: e :: Y).getD (X.length + 1) 0 = e := by
    simp only [List.getD]
    rw [List.getElem?_append_right (by omega)]
    simp
  rw [h1, h2, List.set_append_right _ _ (by omega), show X.length + 1 - X.length = 1 by omega]
  simp only [List.set_cons_succ, List.set_cons_zero]
  rw [List.set_append_right _ _ (by omega), Nat.sub_self]
  rfl
theorem swp_next' (X Y : List Nat) (d e : Nat) : swp (X ++ d :: e :: Y) X.length (X.length + 1) = X ++ e :: d :: Y := by
  unfold swp
  have h1 : (X ++ d :: e :: Y).getD X.length 0 = d := getD_at _ _ _
  have h2 : (X ++ d :: e :: Y).getD (X.length + 1) 0 = e := by
    simp only [List.getD]
    rw [List.getElem?_append_right (by omega)]
    simp
  rw [h1, h2, List.set_append_right _ _ (by omega), Nat.sub_self]
  simp only [List.set_cons_zero]
  rw [List.set_append_right _ _ (by omega), show X.length + 1 - X.length = 1 by omega]
  rfl
/-- Two places far apart. -/
theorem swp_far (X Y Z : List Nat) (d e : Nat) : swp (X ++ d :: (Y ++ e :: Z)) X.length (X.length + 1 + Y.length) = X ++ e :: (Y ++ d :: Z) := by
  unfold swp
  have h1 : (X ++ d :: (Y ++ e :: Z)).getD X.length 0 = d := getD_at _ _ _
  have h2 : (X ++ d :: (Y ++ e :: Z)).getD (X.length + 1 + Y.length) 0 = e := by
    have : X ++ d :: (Y ++ e :: Z) = (X ++ d :: Y) ++ e :: Z := by simp
    rw [this]
    have q := getD_at (X ++ d :: Y) Z e
    rw [List.length_append, List.length_cons] at q
    rw [show X.length + 1 + Y.length = X.length + (Y.length + 1) by omega]
    exact q
  rw [h1, h2, List.set_append_right _ _ (by omega), Nat.sub_self]
  simp only [List.set_cons_zero]
  rw [List.set_append_right _ _ (by omega), show X.length + 1 + Y.length - X.length = Y.length + 1 by omega]
  simp only [List.set_cons_succ]
  rw [List.set_append_right _ _ (by omega), Nat.sub_self]
  rfl
end Ssm
end Go.Proofs.YtoibpbnebcoafaaGreat
