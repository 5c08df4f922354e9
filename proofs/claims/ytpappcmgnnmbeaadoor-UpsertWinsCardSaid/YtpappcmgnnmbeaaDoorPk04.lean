/- When a schema may be, column by column, and whether a row fits it; in plain words. No program, no memory. Dictionaries in plain words: lists of values that rise, places, numbers. No program, no memory. -/
import Derived.Test.YtpappcmgnnmbeaaDoorPk03
import Derived.Test.YtpappcmgnnmbeaaDoorPk01
namespace Go.Proofs.YtpappcmgnnmbeaaDoor
set_option maxRecDepth 20000
namespace Sc
open Va
instance : Inhabited Col := ⟨⟨⟨#[]⟩, 0, false⟩⟩
/-- A truth of the mind as a truth of the machine. -/
noncomputable def tr (p : Prop) : Bool := @decide p (Classical.propDecidable p)
theorem tr_yes {p : Prop} (h : p) : tr p = true := by unfold tr; exact (@decide_eq_true_iff p (Classical.propDecidable p)).2 h
theorem tr_no {p : Prop} (h : ¬ p) : tr p = false := by unfold tr; exact (@decide_eq_false_iff_not p (Classical.propDecidable p)).2 h
theorem tr_iff {p : Prop} : tr p = true ↔ p := by unfold tr; exact @decide_eq_true_iff p (Classical.propDecidable p)
theorem tr_not {p : Prop} : tr p = false ↔ ¬ p := by unfold tr; exact @decide_eq_false_iff_not p (Classical.propDecidable p)
theorem tr_congr {p q : Prop} (h : p ↔ q) : tr p = tr q := by rw [Bool.eq_iff_iff, tr_iff, tr_iff]; exact h
theorem tr_dec (p : Prop) [Decidable p] : tr p = decide p := by rw [Bool.eq_iff_iff, tr_iff, decide_eq_true_iff]
theorem get_mem {cs : List Col} {i : Nat} (h : i < cs.length) : cs.getD i default ∈ cs := by
  simp [List.getD, List.getElem?_eq_getElem h]
theorem mem_get {cs : List Col} {c : Col} (h : c ∈ cs) : ∃ i, i < cs.length ∧ cs.getD i default = c := by
  obtain ⟨i, hi, e⟩ := List.getElem_of_mem h
  exact ⟨i, hi, by simp [List.getD, List.getElem?_eq_getElem hi, e]⟩
theorem all_get {cs : List Col} {p : Col → Prop} : (∀ c ∈ cs, p c) ↔ ∀ i, i < cs.length → p (cs.getD i default) :=
  ⟨fun h i hi => h _ (get_mem hi), fun h c hc => by obtain ⟨i, hi, rfl⟩ := mem_get hc; exact h i hi⟩

/-! ### The first column of a name -/
theorem find_none : ∀ (cs : List Col) (s : ByteArray) (a : Int), (∀ j, j < cs.length → (cs.getD j default).name ≠ s) → findF cs s a = -1
  | [], _, _, _ => rfl
  | c :: cs, s, a, h => by
    rw [findF, if_neg (by simpa using h 0 (by simp))]
    exact find_none cs s (a + 1) (fun j hj => by simpa using h (j + 1) (by simp; omega))
theorem find_at : ∀ (cs : List Col) (s : ByteArray) (a : Int) (k : Nat), k < cs.length → (∀ j, j < k → (cs.getD j default).name ≠ s) → (cs.getD k default).name = s → findF cs s a = a + k
  | [], _, _, _, h, _, _ => by simp at h
  | c :: cs, s, a, 0, _, _, h => by
    rw [findF, if_pos (by simpa using h)]
    simp
  | c :: cs, s, a, k + 1, hk, hj, h => by
    rw [findF, if_neg (by simpa using hj 0 (by omega)), find_at cs s (a + 1) k (by simpa using hk) (fun j q => by simpa using hj (j + 1) (by omega)) (by simpa using h)]
    omega
theorem find_ge : ∀ (cs : List Col) (s : ByteArray) (a : Int), 0 ≤ a → -1 ≤ findF cs s a ∧ findF cs s a < a + cs.length ∨ findF cs s a = -1
  | [], _, _, _ => .inr rfl
  | c :: cs, s, a, h => by
    rw [findF]
    split
    · left; simp; omega
    · have := find_ge cs s (a + 1) (by omega)
      simp only [List.length_cons]
      omega
theorem find_lo (cs : List Col) (s : ByteArray) : -1 ≤ findF cs s 0 ∧ findF cs s 0 ≤ cs.length := by
  have := find_ge cs s 0 (by omega)
  omega

/-! ### Columns that may be -/
/-- A sign of a name. -/
def sgn (x : Int) : Prop := (97 ≤ x ∧ x ≤ 122) ∨ (48 ≤ x ∧ x ≤ 57) ∨ x = 95
/-- May this column be, its name aside from the others'? -/
def colOk (c : Col) : Prop := nameOk c.name ∧ 1 ≤ c.kind ∧ c.kind ≤ 3
/-- May these columns be? -/
def MayC (cs : List Col) : Prop := 1 ≤ cs.length ∧ cs.length ≤ 8 ∧ (∀ c ∈ cs, nameOk c.name ∧ 1 ≤ c.kind ∧ c.kind ≤ 3) ∧ (cs.map Col.name).Nodup
theorem nodup_names (cs : List Col) : (cs.map Col.name).Nodup ↔ ∀ i, i < cs.length → ∀ k, k < i → (cs.getD k default).name ≠ (cs.getD i default).name := by
  rw [List.Nodup, List.pairwise_iff_getElem]
  simp only [List.length_map, List.getElem_map]
  constructor
  · intro h i hi k hk
    have := h k i (by omega) hi hk
    simpa [List.getD, List.getElem?_eq_getElem hi, List.getElem?_eq_getElem (show k < cs.length by omega)] using this
  · intro h k i hk hi hki
    have := h i hi k hki
    simpa [List.getD, List.getElem?_eq_getElem hi, List.getElem?_eq_getElem hk] using this
/-- As the program holds the columns against it. -/
theorem mayC_find (cs : List Col) : MayC cs ↔ 1 ≤ cs.length ∧ cs.length ≤ 8 ∧ ∀ i, i < cs.length → nameOk (cs.getD i default).name ∧ findF cs (cs.getD i default).name 0 = i ∧ 1 ≤ (cs.getD i default).kind ∧ (cs.getD i default).kind ≤ 3 := by
  unfold MayC
  rw [all_get, nodup_names]
  constructor
  · rintro ⟨a, b, h, n⟩
    exact ⟨a, b, fun i hi => ⟨(h i hi).1, by have := find_at cs _ 0 i hi (n i hi) rfl; omega, (h i hi).2⟩⟩
  · rintro ⟨a, b, h⟩
    refine ⟨a, b, fun i hi => ⟨(h i hi).1, (h i hi).2.2⟩, ?_⟩
    -- the least column of that name stands ahead
    intro i
    induction i using Nat.strongRecOn with
    | ind i ih =>
      intro hi k hk e
      by_cases q : ∀ j, j < k → (cs.getD j default).name ≠ (cs.getD k default).name
      · have := find_at cs (cs.getD k default).name 0 k (by omega) q rfl
        rw [e, (h i hi).2.1] at this
        omega
      · exact q fun j hj => ih k hk (by omega) j hj
/-- As the reference does. -/
theorem mayC_pair (cs : List Col) : MayC cs ↔ 1 ≤ cs.length ∧ cs.length ≤ 8 ∧ ∀ i, i < cs.length → colOk (cs.getD i default) ∧ ∀ k, k < i → (cs.getD k default).name ≠ (cs.getD i default).name := by
  unfold MayC
  rw [all_get, nodup_names]
  exact ⟨fun ⟨a, b, h, n⟩ => ⟨a, b, fun i hi => ⟨h i hi, n i hi⟩⟩, fun ⟨a, b, h⟩ => ⟨a, b, fun i hi => (h i hi).1, fun i hi => (h i hi).2⟩⟩
/-- Key, Cmp and Del. -/
def MayK (s : Sch) : Prop := (s.key = -1 ∧ s.cmp = -1 ∧ s.del = -1) ∨ (s.key ≠ -1 ∧ whole s s.key ∧ whole1 s s.cmp 1 ∧ (s.del = -1 ∨ whole1 s s.del 3))
theorem mayS_iff (s : Sch) : MayS s ↔ MayC s.cols ∧ MayK s ∧ -1 ≤ s.sort ∧ s.sort < s.cols.length := by
  unfold MayS MayC MayK
  constructor
  · rintro ⟨a, b, c, d, e, f, g⟩; exact ⟨⟨a, b, e, f⟩, g, c, d⟩
  · rintro ⟨⟨a, b, e, f⟩, g, c, d⟩; exact ⟨a, b, c, d, e, f, g⟩
theorem whole_get (s : Sch) (i : Int) : whole s i ↔ 0 ≤ i ∧ i < s.cols.length ∧ (s.cols.getD i.toNat default).nul = false := by
  unfold whole
  constructor
  · rintro ⟨h, c, hc, hn⟩
    have hlt := (List.getElem?_eq_some_iff.1 hc).1
    exact ⟨h, by omega, by rw [List.getD, hc]; exact hn⟩
  · rintro ⟨h, hl, hn⟩
    have hlt : i.toNat < s.cols.length := by omega
    exact ⟨h, _, List.getElem?_eq_getElem hlt, by simpa [List.getD, List.getElem?_eq_getElem hlt] using hn⟩
theorem whole1_get (s : Sch) (i k : Int) : whole1 s i k ↔ whole s i ∧ (s.cols.getD i.toNat default).kind = k := by
  rw [whole_get]
  unfold whole1
  constructor
  · rintro ⟨h, c, hc, hn, hk⟩
    have hlt := (List.getElem?_eq_some_iff.1 hc).1
    exact ⟨⟨h, by omega, by rw [List.getD, hc]; exact hn⟩, by rw [List.getD, hc]; exact hk⟩
  · rintro ⟨⟨h, hl, hn⟩, hk⟩
    have hlt : i.toNat < s.cols.length := by omega
    exact ⟨h, _, List.getElem?_eq_getElem hlt, by simpa [List.getD, List.getElem?_eq_getElem hlt] using hn, by simpa [List.getD, List.getElem?_eq_getElem hlt] using hk⟩

/-! ### Rows that fit -/
theorem fits_get : ∀ (cs : List Col) (vs : List Vl), fits cs vs ↔ vs.length = cs.length ∧ ∀ i, i < cs.length → fit1 (cs.getD i default) (vs.getD i ⟨0, 0, ⟨#[]⟩, false⟩)
  | [], [] => by simp [fits]
  | [], _ :: _ => by simp [fits]
  | _ :: _, [] => by simp [fits]
  | c :: cs, v :: vs => by
    rw [fits, fits_get cs vs]
    constructor
    · rintro ⟨h, hl, hi⟩
      refine ⟨by simp [hl], fun i q => ?_⟩
      cases i with
      | zero => simpa using h
      | succ i => simpa using hi i (by simpa using q)
    · rintro ⟨hl, hi⟩
      exact ⟨by simpa using hi 0 (by simp), by simpa using hl, fun i q => by simpa using hi (i + 1) (by simpa using q)⟩
/-- Does a row fit a schema? -/
def FitS (s : Sch) (vs : List Vl) : Prop := MayS s ∧ fits s.cols vs
/-- What is not the kind of nothing stands in a column only if it is the column's. -/
theorem fit1_iff (c : Col) (v : Vl) (h : Ok v) : fit1 c v ↔ ¬ (v.kind ≠ c.kind ∧ ¬ (c.nul = true ∧ v.kind = 0)) := by
  unfold fit1
  constructor
  · rintro ⟨_, q | q⟩ ⟨a, b⟩
    · exact a q
    · exact b ⟨q.2, q.1⟩
  · intro q
    by_cases a : v.kind = c.kind
    · exact ⟨h, .inl a⟩
    · by_cases b : c.nul = true ∧ v.kind = 0
      · exact ⟨h, .inr ⟨b.2, b.1⟩⟩
      · exact absurd ⟨a, b⟩ q
end Sc
end Go.Proofs.YtpappcmgnnmbeaaDoor
namespace Go.Proofs.YtpappcmgnnmbeaaDoor
set_option maxRecDepth 20000
namespace Dc
open Va
open Sc (tr tr_yes tr_no tr_iff)
instance : DecidableEq Vl := fun a b =>
  if h : a.kind = b.kind ∧ a.i = b.i ∧ a.s = b.s ∧ a.b = b.b then .isTrue (by obtain ⟨k, i, s, t⟩ := a; obtain ⟨k', i', s', t'⟩ := b; obtain ⟨rfl, rfl, rfl, rfl⟩ := h; rfl)
  else .isFalse fun e => h (by subst e; exact ⟨rfl, rfl, rfl, rfl⟩)
theorem lt_irrefl (a : Vl) : ¬ ord a a < 0 := by rw [ord_self]; omega
theorem lt_asymm {a b : Vl} (h : ord a b < 0) : ¬ ord b a < 0 := by have := ord_neg a b; omega
theorem lt_trans {a b c : Vl} (h : ord a b < 0) (k : ord b c < 0) : ord a c < 0 := by
  have h1 := ord_le_trans (Int.le_of_lt h) (Int.le_of_lt k)
  by_cases q : ord a c = 0
  · have n1 := ord_neg c a
    have h2 : ord c b ≤ 0 := ord_le_trans (b := a) (by omega) (by omega)
    have n2 := ord_neg c b
    omega
  · omega
theorem le_lt_trans {a b c : Vl} (h : ord a b ≤ 0) (k : ord b c < 0) : ord a c < 0 := by
  have h1 := ord_le_trans h (Int.le_of_lt k)
  by_cases q : ord a c = 0
  · have n1 := ord_neg c a
    have h2 : ord c b ≤ 0 := ord_le_trans (b := a) (by omega) h
    have n2 := ord_neg c b
    omega
  · omega
theorem lt_le_trans {a b c : Vl} (h : ord a b < 0) (k : ord b c ≤ 0) : ord a c < 0 := by
  have h1 := ord_le_trans (Int.le_of_lt h) k
  by_cases q : ord a c = 0
  · have n1 := ord_neg c a
    have h2 : ord b a ≤ 0 := ord_le_trans (b := c) k (by omega)
    have n2 := ord_neg b a
    omega
  · omega
/-- How many of a list come ahead of a value. -/
def place (l : List Vl) (v : Vl) : Nat := l.countP fun x => decide (ord x v < 0)
/-- A list that rises. -/
def Up (l : List Vl) : Prop := l.Pairwise fun a b => ord a b < 0
/-- What Rises says: all are valid, and each comes ahead of the next. -/
def Ris (l : List Vl) : Prop := (∀ x ∈ l, May x) ∧ Up l
theorem place_le (l : List Vl) (v : Vl) : place l v ≤ l.length := List.countP_le_length
theorem place_perm {a b : List Vl} (h : a.Perm b) (v : Vl) : place a v = place b v := h.countP_eq _
theorem up_tail {a : Vl} {l : List Vl} (h : Up (a :: l)) : Up l := (List.pairwise_cons.1 h).2
theorem up_head {a : Vl} {l : List Vl} (h : Up (a :: l)) : ∀ x ∈ l, ord a x < 0 := (List.pairwise_cons.1 h).1
theorem up_nodup {l : List Vl} (h : Up l) : l.Nodup := List.Pairwise.imp (S := fun a b => a ≠ b) (fun {a b} q e => by subst e; exact lt_irrefl a q) h
theorem place_zero {l : List Vl} {v : Vl} (h : ∀ x ∈ l, ¬ ord x v < 0) : place l v = 0 := by
  unfold place
  rw [List.countP_eq_zero]
  intro x hx
  simpa using h x hx
/-- In a list that rises as many values come ahead of any one as its place says. -/
theorem up_split : ∀ {l : List Vl} (_ : Up l) (v : Vl) (i : Nat) (x : Vl), l[i]? = some x → (ord x v < 0 ↔ i < place l v)
  | [], _, _, _, _, h => by simp at h
  | a :: l, hu, v, i, x, h => by
    by_cases ha : ord a v < 0
    · have e : place (a :: l) v = place l v + 1 := by simp [place, ha]
      cases i with
      | zero =>
        simp at h
        subst h
        rw [e]
        exact ⟨fun _ => by omega, fun _ => ha⟩
      | succ i =>
        rw [List.getElem?_cons_succ] at h
        rw [up_split (up_tail hu) v i x h, e]
        omega
    · have hz : ∀ y ∈ a :: l, ¬ ord y v < 0 := by
        intro y hy
        rcases List.mem_cons.1 hy with rfl | hy
        · exact ha
        · exact fun q => ha (lt_trans (up_head hu y hy) q)
      have hx : x ∈ a :: l := List.mem_of_getElem? h
      rw [place_zero hz]
      exact ⟨fun q => absurd q (hz x hx), fun q => by omega⟩
theorem up_place {l : List Vl} (h : Up l) {i : Nat} {x : Vl} (hx : l[i]? = some x) : place l x = i := by
  have hi : i < l.length := (List.getElem?_eq_some_iff.1 hx).1
  have h1 : ¬ i < place l x := fun q => lt_irrefl x ((up_split h x i x hx).2 q)
  by_cases q : place l x < i
  · have hp : place l x < l.length := by omega
    have hy : l[place l x]? = some (l[place l x]) := List.getElem?_eq_getElem hp
    have h2 := (up_split h x _ _ hy)
    have h3 : ¬ ord (l[place l x]) x < 0 := fun z => by have := h2.1 z; omega
    have h4 : ord (l[place l x]) x < 0 := by
      have e : l[i] = x := (List.getElem?_eq_some_iff.1 hx).2
      have := (List.pairwise_iff_getElem.1 h) (place l x) i hp hi q
      rw [e] at this
      exact this
    exact absurd h4 h3
  · omega
/-- What parts a list so is the place. -/
theorem place_is {l : List Vl} {v : Vl} {n : Nat} (hn : n ≤ l.length) (h : ∀ i x, l[i]? = some x → (ord x v < 0 ↔ i < n)) : place l v = n := by
  induction l generalizing n with
  | nil => simp at hn; subst hn; rfl
  | cons a l ih =>
    cases n with
    | zero =>
      refine place_zero fun x hx => ?_
      obtain ⟨i, hi⟩ := List.getElem?_of_mem hx
      exact fun q => by have := (h i x hi).1 q; omega
    | succ n =>
      have h0 : ord a v < 0 := (h 0 a rfl).2 (by omega)
      have e : place (a :: l) v = place l v + 1 := by simp [place, h0]
      rw [e, ih (n := n) (by simpa using hn) fun i x hx => by
        have := h (i + 1) x (by simpa using hx)
        rw [this]
        omega]
theorem up_ext : ∀ {a b : List Vl}, Up a → Up b → (∀ x, x ∈ a ↔ x ∈ b) → a = b
  | [], [], _, _, _ => rfl
  | [], y :: b, _, _, h => absurd ((h y).2 (by simp)) (by simp)
  | x :: a, [], _, _, h => absurd ((h x).1 (by simp)) (by simp)
  | x :: a, y :: b, hx, hy, h => by
    have e : x = y := by
      rcases List.mem_cons.1 ((h x).1 (by simp)) with q | q
      · exact q
      · rcases List.mem_cons.1 ((h y).2 (by simp)) with p | p
        · exact p.symm
        · exact absurd (up_head hx y p) (lt_asymm (up_head hy x q))
    subst e
    rw [up_ext (up_tail hx) (up_tail hy) fun z => by
      have hz := h z
      rw [List.mem_cons, List.mem_cons] at hz
      constructor
      · intro q
        rcases hz.1 (.inr q) with p | p
        · subst p
          exact absurd (up_head hx z q) (lt_irrefl z)
        · exact p
      · intro q
        rcases hz.2 (.inr q) with p | p
        · subst p
          exact absurd (up_head hy z q) (lt_irrefl z)
        · exact p]
/-- What is sorted and has no value twice rises. -/
theorem le_up {l : List Vl} (hm : ∀ x ∈ l, May x) (hn : l.Nodup) (h : l.Pairwise fun a b => ord a b ≤ 0) : Up l := by
  induction l with
  | nil => exact List.Pairwise.nil
  | cons a l ih =>
    rw [List.pairwise_cons] at h
    rw [List.nodup_cons] at hn
    refine List.pairwise_cons.2 ⟨fun x hx => ?_, ih (fun x hx => hm x (by simp [hx])) hn.2 h.2⟩
    have h1 := h.1 x hx
    by_cases q : ord a x = 0
    · have := (ord_zero (hm a (by simp)) (hm x (by simp [hx]))).1 q
      subst this
      exact absurd hx hn.1
    · omega
/-- A value's number; -1: it is not there. -/
def fndF : List Vl → Vl → Int → Int
  | [], _, _ => -1
  | a :: l, v, i => if a = v then i else fndF l v (i + 1)
def fnd (l : List Vl) (v : Vl) : Int := fndF l v 0
theorem fndF_none : ∀ {l : List Vl} {v : Vl} (i : Int), v ∉ l → fndF l v i = -1
  | [], _, _, _ => rfl
  | a :: l, v, i, h => by
    rw [fndF, if_neg fun e => h (by simp [e])]
    exact fndF_none _ fun q => h (by simp [q])
theorem fndF_some : ∀ {l : List Vl} {v : Vl} (i : Int), v ∈ l → ∃ k : Nat, fndF l v i = i + k ∧ l[k]? = some v ∧ ∀ j : Nat, j < k → l[j]? ≠ some v
  | [], _, _, h => by simp at h
  | a :: l, v, i, h => by
    by_cases e : a = v
    · exact ⟨0, by rw [fndF, if_pos e]; simp, by simp [e], fun j hj => by omega⟩
    · rcases List.mem_cons.1 h with q | q
      · exact absurd q.symm e
      · obtain ⟨k, h1, h2, h3⟩ := fndF_some (i + 1) q
        refine ⟨k + 1, by rw [fndF, if_neg e, h1]; omega, by simpa using h2, fun j hj => ?_⟩
        cases j with
        | zero => simp [e]
        | succ j => simpa using h3 j (by omega)
theorem fnd_none {l : List Vl} {v : Vl} (h : v ∉ l) : fnd l v = -1 := fndF_none 0 h
theorem fnd_some {l : List Vl} {v : Vl} (h : v ∈ l) : ∃ k : Nat, fnd l v = (k : Int) ∧ l[k]? = some v ∧ ∀ j : Nat, j < k → l[j]? ≠ some v := by
  obtain ⟨k, h1, h2⟩ := fndF_some 0 h
  exact ⟨k, by unfold fnd; rw [h1]; omega, h2⟩
theorem fnd_pos {l : List Vl} {v : Vl} : 0 ≤ fnd l v ↔ v ∈ l := by
  by_cases h : v ∈ l
  · obtain ⟨k, hk, _⟩ := fnd_some h
    rw [hk]
    exact ⟨fun _ => h, fun _ => by omega⟩
  · rw [fnd_none h]
    exact ⟨fun q => by omega, fun q => absurd q h⟩
theorem fnd_at {l : List Vl} (hn : l.Nodup) {i : Nat} {v : Vl} (h : l[i]? = some v) : fnd l v = (i : Int) := by
  obtain ⟨k, h1, h2, _⟩ := fnd_some (List.mem_of_getElem? h)
  have hi := List.getElem?_eq_some_iff.1 h
  have hk := List.getElem?_eq_some_iff.1 h2
  have : k = i := (List.getElem_inj hn).1 (hk.2.trans hi.2.symm)
  rw [h1, this]
theorem fnd_app {l : List Vl} {v : Vl} (h : v ∉ l) (w : Vl) : fnd (l ++ [v]) w = if w ∈ l then fnd l w else if w = v then (l.length : Int) else -1 := by
  by_cases q : w ∈ l
  · rw [if_pos q]
    obtain ⟨k, h1, h2, h3⟩ := fnd_some q
    obtain ⟨j, g1, g2, g3⟩ := fnd_some (l := l ++ [v]) (v := w) (by simp [q])
    have hk : k < l.length := (List.getElem?_eq_some_iff.1 h2).1
    have a1 : (l ++ [v])[k]? = some w := by rw [List.getElem?_append_left hk]; exact h2
    have hjk : ¬ k < j := fun z => g3 k z a1
    have hj : j < l.length := by omega
    rw [List.getElem?_append_left hj] at g2
    have hkj : ¬ j < k := fun z => h3 j z g2
    rw [h1, g1]
    omega
  · rw [if_neg q]
    by_cases e : w = v
    · rw [if_pos e]
      subst e
      obtain ⟨j, g1, g2, g3⟩ := fnd_some (l := l ++ [w]) (v := w) (by simp)
      have hl : ¬ j < l.length := fun z => by
        rw [List.getElem?_append_left z] at g2
        exact q (List.mem_of_getElem? g2)
      have hl2 : ¬ l.length < j := fun z => g3 l.length z (by simp)
      rw [g1]
      omega
    · rw [if_neg e]
      exact fnd_none (by simp [q, e])
/-- The limit that New takes. -/
def lim (k : Int) : Int := if k < 0 then 0 else if 4096 < k then 4096 else k
theorem lim_bd (k : Int) : 0 ≤ lim k ∧ lim k ≤ 4096 := by
  unfold lim
  split
  · omega
  · split <;> omega
/-- What Add does: the list, the number, the error. -/
noncomputable def add (l : List Vl) (k : Int) (v : Vl) : List Vl × Int × Int :=
  if tr (May v) = true then (if v ∈ l then (l, fnd l v, 0) else if lim k ≤ l.length then (l, 0, 4) else (l ++ [v], (l.length : Int), 0)) else (l, 0, 1)
theorem add_bad {l : List Vl} {k : Int} {v : Vl} (h : ¬ May v) : add l k v = (l, 0, 1) := by unfold add; rw [tr_no h]; rfl
theorem add_old {l : List Vl} {k : Int} {v : Vl} (h : May v) (h1 : v ∈ l) : add l k v = (l, fnd l v, 0) := by unfold add; rw [if_pos (tr_yes h), if_pos h1]
theorem add_full {l : List Vl} {k : Int} {v : Vl} (h : May v) (h1 : v ∉ l) (h2 : lim k ≤ l.length) : add l k v = (l, 0, 4) := by unfold add; rw [if_pos (tr_yes h), if_neg h1, if_pos h2]
theorem add_new {l : List Vl} {k : Int} {v : Vl} (h : May v) (h1 : v ∉ l) (h2 : l.length < lim k) : add l k v = (l ++ [v], (l.length : Int), 0) := by unfold add; rw [if_pos (tr_yes h), if_neg h1, if_neg (by omega)]
theorem add_cases (l : List Vl) (k : Int) (v : Vl) : (add l k v).1 = l ∨ (May v ∧ v ∉ l ∧ (l.length : Int) < lim k ∧ add l k v = (l ++ [v], (l.length : Int), 0)) := by
  by_cases h : May v
  · by_cases h1 : v ∈ l
    · rw [add_old h h1]; exact .inl rfl
    · by_cases h2 : lim k ≤ l.length
      · rw [add_full h h1 h2]; exact .inl rfl
      · exact .inr ⟨h, h1, by omega, add_new h h1 (by omega)⟩
  · rw [add_bad h]; exact .inl rfl
/-- A dictionary's list: valid values, none twice, not too many. -/
structure Dis (l : List Vl) (k : Int) : Prop where
  may : ∀ x ∈ l, May x
  nd : l.Nodup
  len : (l.length : Int) ≤ lim k
theorem dis_nil (k : Int) : Dis [] k := ⟨fun _ h => by simp at h, List.nodup_nil, by have := lim_bd k; simp; omega⟩
theorem dis_add {l : List Vl} {k : Int} (h : Dis l k) (v : Vl) : Dis (add l k v).1 k := by
  rcases add_cases l k v with e | ⟨hm, hn, hl, e⟩
  · rw [e]; exact h
  · rw [e]
    refine ⟨fun x hx => ?_, ?_, by simp; omega⟩
    · rcases List.mem_append.1 hx with q | q
      · exact h.may x q
      · rw [List.mem_singleton.1 q]; exact hm
    · exact List.nodup_append.2 ⟨h.nd, by simp, fun a ha b hb q => hn (by rw [List.mem_singleton.1 hb] at q; rw [← q]; exact ha)⟩
theorem add_pre (l : List Vl) (k : Int) (v : Vl) : l <+: (add l k v).1 := by
  rcases add_cases l k v with e | ⟨_, _, _, e⟩
  · rw [e]; exact List.prefix_refl _
  · rw [e]; exact List.prefix_append _ _
theorem add_all {P : Vl → Prop} {l : List Vl} {k : Int} {v : Vl} (h : ∀ x ∈ l, P x) (hv : P v) : ∀ x ∈ (add l k v).1, P x := by
  rcases add_cases l k v with e | ⟨_, _, _, e⟩
  · rw [e]; exact h
  · rw [e]
    intro x hx
    rcases List.mem_append.1 hx with q | q
    · exact h x q
    · rw [List.mem_singleton.1 q]; exact hv
/-- A number that was given stands for its value. -/
theorem add_num {l : List Vl} {k : Int} {v : Vl} (h : (add l k v).2.2 = 0) : ∃ n : Nat, (add l k v).2.1 = (n : Int) ∧ (add l k v).1[n]? = some v := by
  by_cases hm : May v
  · by_cases h1 : v ∈ l
    · rw [add_old hm h1]
      obtain ⟨n, h2, h3, _⟩ := fnd_some h1
      exact ⟨n, h2, h3⟩
    · by_cases h2 : lim k ≤ l.length
      · rw [add_full hm h1 h2] at h; cases h
      · rw [add_new hm h1 (by omega)]
        exact ⟨l.length, rfl, by simp⟩
  · rw [add_bad hm] at h; cases h
theorem add_mem {l : List Vl} {k : Int} {v : Vl} (hl : (l.length : Int) < lim k) (x : Vl) : x ∈ (add l k v).1 ↔ x ∈ l ∨ (x = v ∧ May v) := by
  by_cases hm : May v
  · by_cases h1 : v ∈ l
    · rw [add_old hm h1]
      exact ⟨.inl, fun q => by rcases q with q | ⟨rfl, _⟩ <;> assumption⟩
    · rw [add_new hm h1 hl]
      simp [hm]
  · rw [add_bad hm]
    refine ⟨.inl, fun q => ?_⟩
    rcases q with q | ⟨_, q⟩
    · exact q
    · exact absurd q hm
/-- The list behind so many Adds. -/
noncomputable def adds (k : Int) : List Vl → List Vl → List Vl
  | l, [] => l
  | l, v :: vs => adds k (add l k v).1 vs
theorem adds_app (k : Int) : ∀ (l a b : List Vl), adds k l (a ++ b) = adds k (adds k l a) b
  | _, [], _ => rfl
  | _, _ :: a, b => adds_app k _ a b
theorem dis_adds {k : Int} : ∀ {l : List Vl} (vs : List Vl), Dis l k → Dis (adds k l vs) k
  | _, [], h => h
  | _, v :: vs, h => dis_adds vs (dis_add h v)
theorem adds_pre (k : Int) : ∀ (l vs : List Vl), l <+: adds k l vs
  | _, [] => List.prefix_refl _
  | l, v :: vs => (add_pre l k v).trans (adds_pre k _ vs)
theorem adds_all {P : Vl → Prop} {k : Int} : ∀ {l : List Vl} (vs : List Vl), (∀ x ∈ l, P x) → (∀ x ∈ vs, P x) → ∀ x ∈ adds k l vs, P x
  | _, [], h, _ => h
  | _, v :: vs, h, hv => adds_all vs (add_all h (hv v (by simp))) fun x hx => hv x (by simp [hx])
theorem adds_len (k : Int) : ∀ (l vs : List Vl), (adds k l vs).length ≤ l.length + vs.length
  | _, [] => by simp [adds]
  | l, v :: vs => by
    have h := adds_len k (add l k v).1 vs
    have h1 : (add l k v).1.length ≤ l.length + 1 := by
      rcases add_cases l k v with e | ⟨_, _, _, e⟩ <;> rw [e] <;> simp
    rw [adds, List.length_cons]
    omega
theorem adds_mem {k : Int} : ∀ {l : List Vl} (vs : List Vl), ((l.length + vs.length : Nat) : Int) ≤ lim k → ∀ x, x ∈ adds k l vs ↔ x ∈ l ∨ (x ∈ vs ∧ May x)
  | _, [], _, x => by simp [adds]
  | l, v :: vs, h, x => by
    have h1 : (add l k v).1.length ≤ l.length + 1 := by
      rcases add_cases l k v with e | ⟨_, _, _, e⟩ <;> rw [e] <;> simp
    rw [List.length_cons] at h
    rw [adds, adds_mem vs (by omega) x, add_mem (by omega) x, List.mem_cons]
    constructor
    · rintro ((q | ⟨rfl, q⟩) | ⟨q, p⟩)
      · exact .inl q
      · exact .inr ⟨.inl rfl, q⟩
      · exact .inr ⟨.inr q, p⟩
    · rintro (q | ⟨rfl | q, p⟩)
      · exact .inl (.inl q)
      · exact .inl (.inr ⟨rfl, p⟩)
      · exact .inr ⟨q, p⟩
/-- A value in its place. -/
def ins (v : Vl) : List Vl → List Vl
  | [] => [v]
  | a :: l => if ord a v < 0 then a :: ins v l else v :: a :: l
/-- The values of a list in order. -/
def srt : List Vl → List Vl
  | [] => []
  | v :: l => ins v (srt l)
theorem ins_perm (v : Vl) : ∀ l : List Vl, (ins v l).Perm (v :: l)
  | [] => List.Perm.refl _
  | a :: l => by
    unfold ins
    split
    · exact ((ins_perm v l).cons a).trans (List.Perm.swap v a l)
    · exact List.Perm.refl _
theorem srt_perm : ∀ l : List Vl, (srt l).Perm l
  | [] => List.Perm.refl _
  | v :: l => (ins_perm v _).trans ((srt_perm l).cons v)
theorem ins_le {v : Vl} : ∀ {l : List Vl}, l.Pairwise (fun a b => ord a b ≤ 0) → (ins v l).Pairwise (fun a b => ord a b ≤ 0)
  | [], _ => by simp [ins]
  | a :: l, h => by
    rw [List.pairwise_cons] at h
    unfold ins
    split
    · rename_i q
      refine List.pairwise_cons.2 ⟨fun x hx => ?_, ins_le h.2⟩
      rcases List.mem_cons.1 ((ins_perm v l).mem_iff.1 hx) with p | p
      · rw [p]; omega
      · exact h.1 x p
    · rename_i q
      have hva : ord v a ≤ 0 := by have := ord_neg v a; omega
      refine List.pairwise_cons.2 ⟨fun x hx => ?_, List.pairwise_cons.2 h⟩
      rcases List.mem_cons.1 hx with p | p
      · rw [p]; exact hva
      · exact ord_le_trans hva (h.1 x p)
theorem srt_le : ∀ l : List Vl, (srt l).Pairwise (fun a b => ord a b ≤ 0)
  | [] => List.Pairwise.nil
  | _ :: l => ins_le (srt_le l)
theorem srt_len (l : List Vl) : (srt l).length = l.length := (srt_perm l).length_eq
theorem srt_mem (l : List Vl) (x : Vl) : x ∈ srt l ↔ x ∈ l := (srt_perm l).mem_iff
theorem srt_up {l : List Vl} (hm : ∀ x ∈ l, May x) (hn : l.Nodup) : Up (srt l) :=
  le_up (fun x hx => hm x ((srt_mem l x).1 hx)) ((srt_perm l).nodup_iff.2 hn) (srt_le l)
theorem srt_ris {l : List Vl} (hm : ∀ x ∈ l, May x) (hn : l.Nodup) : Ris (srt l) := ⟨fun x hx => hm x ((srt_mem l x).1 hx), srt_up hm hn⟩
/-- Each stands where as many are as come ahead of it. -/
theorem srt_place {l : List Vl} (hm : ∀ x ∈ l, May x) (hn : l.Nodup) {x : Vl} (hx : x ∈ l) : (srt l)[place l x]? = some x := by
  obtain ⟨i, hi⟩ := List.getElem?_of_mem ((srt_mem l x).2 hx)
  have h := up_place (srt_up hm hn) hi
  rw [place_perm (srt_perm l)] at h
  rw [h]
  exact hi
theorem place_lt {l : List Vl} (hm : ∀ x ∈ l, May x) (hn : l.Nodup) {x : Vl} (hx : x ∈ l) : place l x < l.length := by
  have := (List.getElem?_eq_some_iff.1 (srt_place hm hn hx)).1
  rw [srt_len] at this
  exact this
/-- A list where each stands in its place is the sorted one. -/
theorem srt_is {l out : List Vl} (hm : ∀ x ∈ l, May x) (hn : l.Nodup) (hl : out.length = l.length) (h : ∀ x ∈ l, out[place l x]? = some x) : out = srt l := by
  refine List.ext_getElem? fun i => ?_
  by_cases hi : i < l.length
  · have hs : (srt l)[i]? = some ((srt l)[i]'(by rw [srt_len]; exact hi)) := List.getElem?_eq_getElem _
    have hx : (srt l)[i]'(by rw [srt_len]; exact hi) ∈ l := (srt_mem l _).1 (List.getElem_mem _)
    have hp := up_place (srt_up hm hn) hs
    rw [place_perm (srt_perm l)] at hp
    have := h _ hx
    rw [hp] at this
    rw [this, hs]
  · rw [List.getElem?_eq_none (by omega), List.getElem?_eq_none (by rw [srt_len]; omega)]
/-- Any list of the same values that is sorted is this one. -/
theorem srt_only {l ys : List Vl} (hm : ∀ x ∈ l, May x) (hn : l.Nodup) (hp : ys.Perm l) (hs : ys.Pairwise fun a b => ord a b ≤ 0) : ys = srt l :=
  up_ext (le_up (fun x hx => hm x (hp.mem_iff.1 hx)) (hp.nodup_iff.2 hn) hs) (srt_up hm hn) fun x => by rw [hp.mem_iff, srt_mem]
/-- Each value's index in the sorted list, number by number. -/
def tos (l : List Vl) : List Int := l.map fun x => (place l x : Int)
theorem tos_len (l : List Vl) : (tos l).length = l.length := by simp [tos]
theorem tos_at {l : List Vl} {i : Nat} {x : Vl} (h : l[i]? = some x) : (tos l)[i]? = some (place l x : Int) := by simp [tos, h]
/-- Whichever order values were added in, what is sorted is the same. -/
theorem srt_turn {k : Int} {vs : List Vl} (h : (vs.length : Int) ≤ lim k) : srt (adds k [] vs) = srt (adds k [] vs.reverse) := by
  have d1 := dis_adds vs (dis_nil k)
  have d2 := dis_adds vs.reverse (dis_nil k)
  refine up_ext (srt_up d1.may d1.nd) (srt_up d2.may d2.nd) fun x => ?_
  rw [srt_mem, srt_mem, adds_mem vs (by simpa using h) x, adds_mem vs.reverse (by simpa using h) x, List.mem_reverse]
/-- Whether a value is there, where a list rises. -/
theorem ris_mem {l : List Vl} (h : Up l) (v : Vl) : v ∈ l ↔ l[place l v]? = some v := by
  constructor
  · intro q
    obtain ⟨i, hi⟩ := List.getElem?_of_mem q
    rw [up_place h hi]
    exact hi
  · exact List.mem_of_getElem?
end Dc
end Go.Proofs.YtpappcmgnnmbeaaDoor
