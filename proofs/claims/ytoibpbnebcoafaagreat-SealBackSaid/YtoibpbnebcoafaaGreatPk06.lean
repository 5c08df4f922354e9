/- Dictionaries in plain words: lists of values that rise, places, numbers. No program, no memory. Words on memory: a slice of values (a kind, a number, a text, a truth); from an argument as the statement reads it to a value, and to a slice of such. -/
import Derived.ProofKit
import Derived.OpenShut
import Derived.Deep.Slices
import Derived.Lib.SmallJoins
import Derived.Test.YtoibpbnebcoafaaGreatPk03
import Derived.Test.YtoibpbnebcoafaaGreatPk05
import Derived.Test.YtoibpbnebcoafaaGreatPk02
import Derived.Test.YtoibpbnebcoafaaGreatProg
namespace Go.Proofs.YtoibpbnebcoafaaGreat
set_option maxRecDepth 20000
namespace Dc
open Va
open Sc (tr tr_yes tr_no tr_iff)
instance : DecidableEq Vl := fun a b =>
  if h : a.kind = b.kind ∧ a.i = b.i ∧ a.s = b.s ∧ a.b = b.b then .isTrue (by obtain ⟨k, i, s, t⟩ := a; obtain ⟨k', i', s', t'⟩ := b; obtain ⟨rfl, rfl, rfl, rfl⟩ := h; rfl)
  else .isFalse fun e => h (by subst e; exact ⟨rfl, rfl, rfl, rfl⟩)
theorem lt_irrefl (a : Vl) : ¬ ord a a < 0 := by rw [ord_self]; omega
theorem lt_asymm {a b : Vl} (h : ord a b < 0) : ¬ ord b a < 0 := by have := ord_neg a b; omega
theorem lt_trans {a b c : Vl} (h : ord a b < 0) (k : ord b c < 0) : ord a c < 0 := by
  have h1 := ord_le_trans (Int.le_of_lt h) (Int.le_of_lt k)
  by_cases q : ord a c = 0
  · have n1 := ord_neg c a
    have h2 : ord c b ≤ 0 := ord_le_trans (b := a) (by omega) (by omega)
    have n2 := ord_neg c b
    omega
  · omega
theorem le_lt_trans {a b c : Vl} (h : ord a b ≤ 0) (k : ord b c < 0) : ord a c < 0 := by
  have h1 := ord_le_trans h (Int.le_of_lt k)
  by_cases q : ord a c = 0
  · have n1 := ord_neg c a
    have h2 : ord c b ≤ 0 := ord_le_trans (b := a) (by omega) h
    have n2 := ord_neg c b
    omega
  · omega
theorem lt_le_trans {a b c : Vl} (h : ord a b < 0) (k : ord b c ≤ 0) : ord a c < 0 := by
  have h1 := ord_le_trans (Int.le_of_lt h) k
  by_cases q : ord a c = 0
  · have n1 := ord_neg c a
    have h2 : ord b a ≤ 0 := ord_le_trans (b := c) k (by omega)
    have n2 := ord_neg b a
    omega
  · omega
/-- How many of a list come ahead of a value. -/
def place (l : List Vl) (v : Vl) : Nat := l.countP fun x => decide (ord x v < 0)
/-- A list that rises. -/
def Up (l : List Vl) : Prop := l.Pairwise fun a b => ord a b < 0
/-- What Rises says: all are valid, and each comes ahead of the next. -/
def Ris (l : List Vl) : Prop := (∀ x ∈ l, May x) ∧ Up l
theorem place_le (l : List Vl) (v : Vl) : place l v ≤ l.length := List.countP_le_length
theorem place_perm {a b : List Vl} (h : a.Perm b) (v : Vl) : place a v = place b v := h.countP_eq _
theorem up_tail {a : Vl} {l : List Vl} (h : Up (a :: l)) : Up l := (List.pairwise_cons.1 h).2
theorem up_head {a : Vl} {l : List Vl} (h : Up (a :: l)) : ∀ x ∈ l, ord a x < 0 := (List.pairwise_cons.1 h).1
theorem up_nodup {l : List Vl} (h : Up l) : l.Nodup := List.Pairwise.imp (S := fun a b => a ≠ b) (fun {a b} q e => by subst e; exact lt_irrefl a q) h
theorem place_zero {l : List Vl} {v : Vl} (h : ∀ x ∈ l, ¬ ord x v < 0) : place l v = 0 := by
  unfold place
  rw [List.countP_eq_zero]
  intro x hx
  simpa using h x hx
/-- In a list that rises as many values come ahead of any one as its place says. -/
theorem up_split : ∀ {l : List Vl} (_ : Up l) (v : Vl) (i : Nat) (x : Vl), l[i]? = some x → (ord x v < 0 ↔ i < place l v)
  | [], _, _, _, _, h => by simp at h
  | a :: l, hu, v, i, x, h => by
    by_cases ha : ord a v < 0
    · have e : place (a :: l) v = place l v + 1 := by simp [place, ha]
      cases i with
      | zero =>
        simp at h
        subst h
        rw [e]
        exact ⟨fun _ => by omega, fun _ => ha⟩
      | succ i =>
        rw [List.getElem?_cons_succ] at h
        rw [up_split (up_tail hu) v i x h, e]
        omega
    · have hz : ∀ y ∈ a :: l, ¬ ord y v < 0 := by
        intro y hy
        rcases List.mem_cons.1 hy with rfl | hy
        · exact ha
        · exact fun q => ha (lt_trans (up_head hu y hy) q)
      have hx : x ∈ a :: l := List.mem_of_getElem? h
      rw [place_zero hz]
      exact ⟨fun q => absurd q (hz x hx), fun q => by omega⟩
theorem up_place {l : List Vl} (h : Up l) {i : Nat} {x : Vl} (hx : l[i]? = some x) : place l x = i := by
  have hi : i < l.length := (List.getElem?_eq_some_iff.1 hx).1
  have h1 : ¬ i < place l x := fun q => lt_irrefl x ((up_split h x i x hx).2 q)
  by_cases q : place l x < i
  · have hp : place l x < l.length := by omega
    have hy : l[place l x]? = some (l[place l x]) := List.getElem?_eq_getElem hp
    have h2 := (up_split h x _ _ hy)
    have h3 : ¬ ord (l[place l x]) x < 0 := fun z => by have := h2.1 z; omega
    have h4 : ord (l[place l x]) x < 0 := by
      have e : l[i] = x := (List.getElem?_eq_some_iff.1 hx).2
      have := (List.pairwise_iff_getElem.1 h) (place l x) i hp hi q
      rw [e] at this
      exact this
    exact absurd h4 h3
  · omega
/-- What parts a list so is the place. -/
theorem place_is {l : List Vl} {v : Vl} {n : Nat} (hn : n ≤ l.length) (h : ∀ i x, l[i]? = some x → (ord x v < 0 ↔ i < n)) : place l v = n := by
  induction l generalizing n with
  | nil => simp at hn; subst hn; rfl
  | cons a l ih =>
    cases n with
    | zero =>
      refine place_zero fun x hx => ?_
      obtain ⟨i, hi⟩ := List.getElem?_of_mem hx
      exact fun q => by have := (h i x hi).1 q; omega
    | succ n =>
      have h0 : ord a v < 0 := (h 0 a rfl).2 (by omega)
      have e : place (a :: l) v = place l v + 1 := by simp [place, h0]
      rw [e, ih (n := n) (by simpa using hn) fun i x hx => by
        have := h (i + 1) x (by simpa using hx)
        rw [this]
        omega]
theorem up_ext : ∀ {a b : List Vl}, Up a → Up b → (∀ x, x ∈ a ↔ x ∈ b) → a = b
  | [], [], _, _, _ => rfl
  | [], y :: b, _, _, h => absurd ((h y).2 (by simp)) (by simp)
  | x :: a, [], _, _, h => absurd ((h x).1 (by simp)) (by simp)
  | x :: a, y :: b, hx, hy, h => by
    have e : x = y := by
      rcases List.mem_cons.1 ((h x).1 (by simp)) with q | q
      · exact q
      · rcases List.mem_cons.1 ((h y).2 (by simp)) with p | p
        · exact p.symm
        · exact absurd (up_head hx y p) (lt_asymm (up_head hy x q))
    subst e
    rw [up_ext (up_tail hx) (up_tail hy) fun z => by
      have hz := h z
      rw [List.mem_cons, List.mem_cons] at hz
      constructor
      · intro q
        rcases hz.1 (.inr q) with p | p
        · subst p
          exact absurd (up_head hx z q) (lt_irrefl z)
        · exact p
      · intro q
        rcases hz.2 (.inr q) with p | p
        · subst p
          exact absurd (up_head hy z q) (lt_irrefl z)
        · exact p]
/-- What is sorted and has no value twice rises. -/
theorem le_up {l : List Vl} (hm : ∀ x ∈ l, May x) (hn : l.Nodup) (h : l.Pairwise fun a b => ord a b ≤ 0) : Up l := by
  induction l with
  | nil => exact List.Pairwise.nil
  | cons a l ih =>
    rw [List.pairwise_cons] at h
    rw [List.nodup_cons] at hn
    refine List.pairwise_cons.2 ⟨fun x hx => ?_, ih (fun x hx => hm x (by simp [hx])) hn.2 h.2⟩
    have h1 := h.1 x hx
    by_cases q : ord a x = 0
    · have := (ord_zero (hm a (by simp)) (hm x (by simp [hx]))).1 q
      subst this
      exact absurd hx hn.1
    · omega
/-- A value's number; -1: it is not there. -/
def fndF : List Vl → Vl → Int → Int
  | [], _, _ => -1
  | a :: l, v, i => if a = v then i else fndF l v (i + 1)
def fnd (l : List Vl) (v : Vl) : Int := fndF l v 0
theorem fndF_none : ∀ {l : List Vl} {v : Vl} (i : Int), v ∉ l → fndF l v i = -1
  | [], _, _, _ => rfl
  | a :: l, v, i, h => by
    rw [fndF, if_neg fun e => h (by simp [e])]
    exact fndF_none _ fun q => h (by simp [q])
theorem fndF_some : ∀ {l : List Vl} {v : Vl} (i : Int), v ∈ l → ∃ k : Nat, fndF l v i = i + k ∧ l[k]? = some v ∧ ∀ j : Nat, j < k → l[j]? ≠ some v
  | [], _, _, h => by simp at h
  | a :: l, v, i, h => by
    by_cases e : a = v
    · exact ⟨0, by rw [fndF, if_pos e]; simp, by simp [e], fun j hj => by omega⟩
    · rcases List.mem_cons.1 h with q | q
      · exact absurd q.symm e
      · obtain ⟨k, h1, h2, h3⟩ := fndF_some (i + 1) q
        refine ⟨k + 1, by rw [fndF, if_neg e, h1]; omega, by simpa using h2, fun j hj => ?_⟩
        cases j with
        | zero => simp [e]
        | succ j => simpa using h3 j (by omega)
theorem fnd_none {l : List Vl} {v : Vl} (h : v ∉ l) : fnd l v = -1 := fndF_none 0 h
theorem fnd_some {l : List Vl} {v : Vl} (h : v ∈ l) : ∃ k : Nat, fnd l v = (k : Int) ∧ l[k]? = some v ∧ ∀ j : Nat, j < k → l[j]? ≠ some v := by
  obtain ⟨k, h1, h2⟩ := fndF_some 0 h
  exact ⟨k, by unfold fnd; rw [h1]; omega, h2⟩
theorem fnd_pos {l : List Vl} {v : Vl} : 0 ≤ fnd l v ↔ v ∈ l := by
  by_cases h : v ∈ l
  · obtain ⟨k, hk, _⟩ := fnd_some h
    rw [hk]
    exact ⟨fun _ => h, fun _ => by omega⟩
  · rw [fnd_none h]
    exact ⟨fun q => by omega, fun q => absurd q h⟩
theorem fnd_at {l : List Vl} (hn : l.Nodup) {i : Nat} {v : Vl} (h : l[i]? = some v) : fnd l v = (i : Int) := by
  obtain ⟨k, h1, h2, _⟩ := fnd_some (List.mem_of_getElem? h)
  have hi := List.getElem?_eq_some_iff.1 h
  have hk := List.getElem?_eq_some_iff.1 h2
  have : k = i := (List.getElem_inj hn).1 (hk.2.trans hi.2.symm)
  rw [h1, this]
theorem fnd_app {l : List Vl} {v : Vl} (h : v ∉ l) (w : Vl) : fnd (l ++ [v]) w = if w ∈ l then fnd l w else if w = v then (l.length : Int) else -1 := by
  by_cases q : w ∈ l
  · rw [if_pos q]
    obtain ⟨k, h1, h2, h3⟩ := fnd_some q
    obtain ⟨j, g1, g2, g3⟩ := fnd_some (l := l ++ [v]) (v := w) (by simp [q])
    have hk : k < l.length := (List.getElem?_eq_some_iff.1 h2).1
    have a1 : (l ++ [v])[k]? = some w := by rw [List.getElem?_append_left hk]; exact h2
    have hjk : ¬ k < j := fun z => g3 k z a1
    have hj : j < l.length := by omega
    rw [List.getElem?_append_left hj] at g2
    have hkj : ¬ j < k := fun z => h3 j z g2
    rw [h1, g1]
    omega
  · rw [if_neg q]
    by_cases e : w = v
    · rw [if_pos e]
      subst e
      obtain ⟨j, g1, g2, g3⟩ := fnd_some (l := l ++ [w]) (v := w) (by simp)
      have hl : ¬ j < l.length := fun z => by
        rw [List.getElem?_append_left z] at g2
        exact q (List.mem_of_getElem? g2)
      have hl2 : ¬ l.length < j := fun z => g3 l.length z (by simp)
      rw [g1]
      omega
    · rw [if_neg e]
      exact fnd_none (by simp [q, e])
/-- The limit that New takes. -/
def lim (k : Int) : Int := if k < 0 then 0 else if 4096 < k then 4096 else k
theorem lim_bd (k : Int) : 0 ≤ lim k ∧ lim k ≤ 4096 := by
  unfold lim
  split
  · omega
  · split <;> omega
/-- What Add does: the list, the number, the error. -/
noncomputable def add (l : List Vl) (k : Int) (v : Vl) : List Vl × Int × Int :=
  if tr (May v) = true then (if v ∈ l then (l, fnd l v, 0) else if lim k ≤ l.length then (l, 0, 4) else (l ++ [v], (l.length : Int), 0)) else (l, 0, 1)
theorem add_bad {l : List Vl} {k : Int} {v : Vl} (h : ¬ May v) : add l k v = (l, 0, 1) := by unfold add; rw [tr_no h]; rfl
theorem add_old {l : List Vl} {k : Int} {v : Vl} (h : May v) (h1 : v ∈ l) : add l k v = (l, fnd l v, 0) := by unfold add; rw [if_pos (tr_yes h), if_pos h1]
theorem add_full {l : List Vl} {k : Int} {v : Vl} (h : May v) (h1 : v ∉ l) (h2 : lim k ≤ l.length) : add l k v = (l, 0, 4) := by unfold add; rw [if_pos (tr_yes h), if_neg h1, if_pos h2]
theorem add_new {l : List Vl} {k : Int} {v : Vl} (h : May v) (h1 : v ∉ l) (h2 : l.length < lim k) : add l k v = (l ++ [v], (l.length : Int), 0) := by unfold add; rw [if_pos (tr_yes h), if_neg h1, if_neg (by omega)]
theorem add_cases (l : List Vl) (k : Int) (v : Vl) : (add l k v).1 = l ∨ (May v ∧ v ∉ l ∧ (l.length : Int) < lim k ∧ add l k v = (l ++ [v], (l.length : Int), 0)) := by
  by_cases h : May v
  · by_cases h1 : v ∈ l
    · rw [add_old h h1]; exact .inl rfl
    · by_cases h2 : lim k ≤ l.length
      · rw [add_full h h1 h2]; exact .inl rfl
      · exact .inr ⟨h, h1, by omega, add_new h h1 (by omega)⟩
  · rw [add_bad h]; exact .inl rfl
/-- A dictionary's list: valid values, none twice, not too many. -/
structure Dis (l : List Vl) (k : Int) : Prop where
  may : ∀ x ∈ l, May x
  nd : l.Nodup
  len : (l.length : Int) ≤ lim k
theorem dis_nil (k : Int) : Dis [] k := ⟨fun _ h => by simp at h, List.nodup_nil, by have := lim_bd k; simp; omega⟩
theorem dis_add {l : List Vl} {k : Int} (h : Dis l k) (v : Vl) : Dis (add l k v).1 k := by
  rcases add_cases l k v with e | ⟨hm, hn, hl, e⟩
  · rw [e]; exact h
  · rw [e]
    refine ⟨fun x hx => ?_, ?_, by simp; omega⟩
    · rcases List.mem_append.1 hx with q | q
      · exact h.may x q
      · rw [List.mem_singleton.1 q]; exact hm
    · exact List.nodup_append.2 ⟨h.nd, by simp, fun a ha b hb q => hn (by rw [List.mem_singleton.1 hb] at q; rw [← q]; exact ha)⟩
theorem add_pre (l : List Vl) (k : Int) (v : Vl) : l <+: (add l k v).1 := by
  rcases add_cases l k v with e | ⟨_, _, _, e⟩
  · rw [e]; exact List.prefix_refl _
  · rw [e]; exact List.prefix_append _ _
theorem add_all {P : Vl → Prop} {l : List Vl} {k : Int} {v : Vl} (h : ∀ x ∈ l, P x) (hv : P v) : ∀ x ∈ (add l k v).1, P x := by
  rcases add_cases l k v with e | ⟨_, _, _, e⟩
  · rw [e]; exact h
  · rw [e]
    intro x hx
    rcases List.mem_append.1 hx with q | q
    · exact h x q
    · rw [List.mem_singleton.1 q]; exact hv
/-- A number that was given stands for its value. -/
theorem add_num {l : List Vl} {k : Int} {v : Vl} (h : (add l k v).2.2 = 0) : ∃ n : Nat, (add l k v).2.1 = (n : Int) ∧ (add l k v).1[n]? = some v := by
  by_cases hm : May v
  · by_cases h1 : v ∈ l
    · rw [add_old hm h1]
      obtain ⟨n, h2, h3, _⟩ := fnd_some h1
      exact ⟨n, h2, h3⟩
    · by_cases h2 : lim k ≤ l.length
      · rw [add_full hm h1 h2] at h; cases h
      · rw [add_new hm h1 (by omega)]
        exact ⟨l.length, rfl, by simp⟩
  · rw [add_bad hm] at h; cases h
theorem add_mem {l : List Vl} {k : Int} {v : Vl} (hl : (l.length : Int) < lim k) (x : Vl) : x ∈ (add l k v).1 ↔ x ∈ l ∨ (x = v ∧ May v) := by
  by_cases hm : May v
  · by_cases h1 : v ∈ l
    · rw [add_old hm h1]
      exact ⟨.inl, fun q => by rcases q with q | ⟨rfl, _⟩ <;> assumption⟩
    · rw [add_new hm h1 hl]
      simp [hm]
  · rw [add_bad hm]
    refine ⟨.inl, fun q => ?_⟩
    rcases q with q | ⟨_, q⟩
    · exact q
    · exact absurd q hm
/-- The list behind so many Adds. -/
noncomputable def adds (k : Int) : List Vl → List Vl → List Vl
  | l, [] => l
  | l, v :: vs => adds k (add l k v).1 vs
theorem adds_app (k : Int) : ∀ (l a b : List Vl), adds k l (a ++ b) = adds k (adds k l a) b
  | _, [], _ => rfl
  | _, _ :: a, b => adds_app k _ a b
theorem dis_adds {k : Int} : ∀ {l : List Vl} (vs : List Vl), Dis l k → Dis (adds k l vs) k
  | _, [], h => h
  | _, v :: vs, h => dis_adds vs (dis_add h v)
theorem adds_pre (k : Int) : ∀ (l vs : List Vl), l <+: adds k l vs
  | _, [] => List.prefix_refl _
  | l, v :: vs => (add_pre l k v).trans (adds_pre k _ vs)
theorem adds_all {P : Vl → Prop} {k : Int} : ∀ {l : List Vl} (vs : List Vl), (∀ x ∈ l, P x) → (∀ x ∈ vs, P x) → ∀ x ∈ adds k l vs, P x
  | _, [], h, _ => h
  | _, v :: vs, h, hv => adds_all vs (add_all h (hv v (by simp))) fun x hx => hv x (by simp [hx])
theorem adds_len (k : Int) : ∀ (l vs : List Vl), (adds k l vs).length ≤ l.length + vs.length
  | _, [] => by simp [adds]
  | l, v :: vs => by
    have h := adds_len k (add l k v).1 vs
    have h1 : (add l k v).1.length ≤ l.length + 1 := by
      rcases add_cases l k v with e | ⟨_, _, _, e⟩ <;> rw [e] <;> simp
    rw [adds, List.length_cons]
    omega
theorem adds_mem {k : Int} : ∀ {l : List Vl} (vs : List Vl), ((l.length + vs.length : Nat) : Int) ≤ lim k → ∀ x, x ∈ adds k l vs ↔ x ∈ l ∨ (x ∈ vs ∧ May x)
  | _, [], _, x => by simp [adds]
  | l, v :: vs, h, x => by
    have h1 : (add l k v).1.length ≤ l.length + 1 := by
      rcases add_cases l k v with e | ⟨_, _, _, e⟩ <;> rw [e] <;> simp
    rw [List.length_cons] at h
    rw [adds, adds_mem vs (by omega) x, add_mem (by omega) x, List.mem_cons]
    constructor
    · rintro ((q | ⟨rfl, q⟩) | ⟨q, p⟩)
      · exact .inl q
      · exact .inr ⟨.inl rfl, q⟩
      · exact .inr ⟨.inr q, p⟩
    · rintro (q | ⟨rfl | q, p⟩)
      · exact .inl (.inl q)
      · exact .inl (.inr ⟨rfl, p⟩)
      · exact .inr ⟨q, p⟩
/-- A value in its place. -/
def ins (v : Vl) : List Vl → List Vl
  | [] => [v]
  | a :: l => if ord a v < 0 then a :: ins v l else v :: a :: l
/-- The values of a list in order. -/
def srt : List Vl → List Vl
  | [] => []
  | v :: l => ins v (srt l)
theorem ins_perm (v : Vl) : ∀ l : List Vl, (ins v l).Perm (v :: l)
  | [] => List.Perm.refl _
  | a :: l => by
    unfold ins
    split
    · exact ((ins_perm v l).cons a).trans (List.Perm.swap v a l)
    · exact List.Perm.refl _
theorem srt_perm : ∀ l : List Vl, (srt l).Perm l
  | [] => List.Perm.refl _
  | v :: l => (ins_perm v _).trans ((srt_perm l).cons v)
theorem ins_le {v : Vl} : ∀ {l : List Vl}, l.Pairwise (fun a b => ord a b ≤ 0) → (ins v l).Pairwise (fun a b => ord a b ≤ 0)
  | [], _ => by simp [ins]
  | a :: l, h => by
    rw [List.pairwise_cons] at h
    unfold ins
    split
    · rename_i q
      refine List.pairwise_cons.2 ⟨fun x hx => ?_, ins_le h.2⟩
      rcases List.mem_cons.1 ((ins_perm v l).mem_iff.1 hx) with p | p
      · rw [p]; omega
      · exact h.1 x p
    · rename_i q
      have hva : ord v a ≤ 0 := by have := ord_neg v a; omega
      refine List.pairwise_cons.2 ⟨fun x hx => ?_, List.pairwise_cons.2 h⟩
      rcases List.mem_cons.1 hx with p | p
      · rw [p]; exact hva
      · exact ord_le_trans hva (h.1 x p)
theorem srt_le : ∀ l : List Vl, (srt l).Pairwise (fun a b => ord a b ≤ 0)
  | [] => List.Pairwise.nil
  | _ :: l => ins_le (srt_le l)
theorem srt_len (l : List Vl) : (srt l).length = l.length := (srt_perm l).length_eq
theorem srt_mem (l : List Vl) (x : Vl) : x ∈ srt l ↔ x ∈ l := (srt_perm l).mem_iff
theorem srt_up {l : List Vl} (hm : ∀ x ∈ l, May x) (hn : l.Nodup) : Up (srt l) :=
  le_up (fun x hx => hm x ((srt_mem l x).1 hx)) ((srt_perm l).nodup_iff.2 hn) (srt_le l)
theorem srt_ris {l : List Vl} (hm : ∀ x ∈ l, May x) (hn : l.Nodup) : Ris (srt l) := ⟨fun x hx => hm x ((srt_mem l x).1 hx), srt_up hm hn⟩
/-- Each stands where as many are as come ahead of it. -/
theorem srt_place {l : List Vl} (hm : ∀ x ∈ l, May x) (hn : l.Nodup) {x : Vl} (hx : x ∈ l) : (srt l)[place l x]? = some x := by
  obtain ⟨i, hi⟩ := List.getElem?_of_mem ((srt_mem l x).2 hx)
  have h := up_place (srt_up hm hn) hi
  rw [place_perm (srt_perm l)] at h
  rw [h]
  exact hi
theorem place_lt {l : List Vl} (hm : ∀ x ∈ l, May x) (hn : l.Nodup) {x : Vl} (hx : x ∈ l) : place l x < l.length := by
  have := (List.getElem?_eq_some_iff.1 (srt_place hm hn hx)).1
  rw [srt_len] at this
  exact this
/-- A list where each stands in its place is the sorted one. -/
theorem srt_is {l out : List Vl} (hm : ∀ x ∈ l, May x) (hn : l.Nodup) (hl : out.length = l.length) (h : ∀ x ∈ l, out[place l x]? = some x) : out = srt l := by
  refine List.ext_getElem? fun i => ?_
  by_cases hi : i < l.length
  · have hs : (srt l)[i]? = some ((srt l)[i]'(by rw [srt_len]; exact hi)) := List.getElem?_eq_getElem _
    have hx : (srt l)[i]'(by rw [srt_len]; exact hi) ∈ l := (srt_mem l _).1 (List.getElem_mem _)
    have hp := up_place (srt_up hm hn) hs
    rw [place_perm (srt_perm l)] at hp
    have := h _ hx
    rw [hp] at this
    rw [this, hs]
  · rw [List.getElem?_eq_none (by omega), List.getElem?_eq_none (by rw [srt_len]; omega)]
/-- Any list of the same values that is sorted is this one. -/
theorem srt_only {l ys : List Vl} (hm : ∀ x ∈ l, May x) (hn : l.Nodup) (hp : ys.Perm l) (hs : ys.Pairwise fun a b => ord a b ≤ 0) : ys = srt l :=
  up_ext (le_up (fun x hx => hm x (hp.mem_iff.1 hx)) (hp.nodup_iff.2 hn) hs) (srt_up hm hn) fun x => by rw [hp.mem_iff, srt_mem]
/-- Each value's index in the sorted list, number by number. -/
def tos (l : List Vl) : List Int := l.map fun x => (place l x : Int)
theorem tos_len (l : List Vl) : (tos l).length = l.length := by simp [tos]
theorem tos_at {l : List Vl} {i : Nat} {x : Vl} (h : l[i]? = some x) : (tos l)[i]? = some (place l x : Int) := by simp [tos, h]
/-- Whichever order values were added in, what is sorted is the same. -/
theorem srt_turn {k : Int} {vs : List Vl} (h : (vs.length : Int) ≤ lim k) : srt (adds k [] vs) = srt (adds k [] vs.reverse) := by
  have d1 := dis_adds vs (dis_nil k)
  have d2 := dis_adds vs.reverse (dis_nil k)
  refine up_ext (srt_up d1.may d1.nd) (srt_up d2.may d2.nd) fun x => ?_
  rw [srt_mem, srt_mem, adds_mem vs (by simpa using h) x, adds_mem vs.reverse (by simpa using h) x, List.mem_reverse]
/-- Whether a value is there, where a list rises. -/
theorem ris_mem {l : List Vl} (h : Up l) (v : Vl) : v ∈ l ↔ l[place l v]? = some v := by
  constructor
  · intro q
    obtain ⟨i, hi⟩ := List.getElem?_of_mem q
    rw [up_place h hi]
    exact hi
  · exact List.mem_of_getElem?
end Dc
end Go.Proofs.YtoibpbnebcoafaaGreat
namespace Go.Proofs.YtoibpbnebcoafaaGreat
set_option maxRecDepth 20000
open Go.RowKit Go.ChangeShapes Go.WideShapes
namespace Wd
open Va (Vl)
instance : Inhabited Vl := ⟨⟨0, 0, ⟨#[]⟩, false⟩⟩
def vals (o : Vl) : List Value := [.int .i64 o.kind, .int .i64 o.i, .string o.s, .bool o.b]
/-- Its numbers are the machine's. -/
structure V1 (o : Vl) : Prop where
  w0 : (Lit.int .i64 o.kind).wf = true
  w1 : (Lit.int .i64 o.i).wf = true
/-- The slice value of address A, length n and capacity c holds the values os. -/
structure Vs (w : World) (A : Option Addr) (n c : Nat) (os : List Vl) : Prop where
  len : n = os.length
  cap : n ≤ c
  max : c ≤ maxLen
  nil : A = none → c = 0
  at_ : ∀ j, j < os.length → ∃ b o, A = some ⟨b, o, none⟩ ∧ b < w.heap.size ∧ (∀ i v, (vals (os.getD j default))[i]? = some v → w.cell? ⟨b, o + (j * 4 + i), none⟩ = some v) ∧ V1 (os.getD j default)
section
variable {w w' : World} {A : Option Addr} {n c : Nat} {os : List Vl} {o : Vl}
theorem Vs.below (h : Vs w A n c os) (hb : Below w.heap.size w w') : Vs w' A n c os :=
  ⟨h.len, h.cap, h.max, h.nil, fun j hj => by
    obtain ⟨b, o, e, hlt, hc, h1⟩ := h.at_ j hj
    exact ⟨b, o, e, Nat.lt_of_lt_of_le hlt hb.size, fun i v hv => (hb.cell (p := ⟨b, o + (j * 4 + i), none⟩) hlt).trans (hc i v hv), h1⟩⟩
theorem Vs.none_ (w : World) : Vs w none 0 0 [] := ⟨rfl, Nat.le_refl _, Nat.zero_le _, fun _ => rfl, fun _ h => by simp at h⟩
/-- The cells of the j-th. -/
theorem Vs.cells (h : Vs w A n c os) {j : Nat} (hj : j < os.length) {o : Vl} (ho : o = os.getD j default) : ∃ b f, A = some ⟨b, f, none⟩ ∧ b < w.heap.size ∧ w.cell? ⟨b, f + j * 4, none⟩ = some (.int .i64 o.kind) ∧ w.cell? ⟨b, f + j * 4 + 1, none⟩ = some (.int .i64 o.i) ∧
    w.cell? ⟨b, f + j * 4 + 2, none⟩ = some (.string o.s) ∧ w.cell? ⟨b, f + j * 4 + 3, none⟩ = some (.bool o.b) ∧ V1 o := by
  subst ho
  obtain ⟨b, f, e, hlt, hc, h1⟩ := h.at_ j hj
  exact ⟨b, f, e, hlt, hc 0 _ rfl, by rw [Nat.add_assoc]; exact hc 1 _ rfl, by rw [Nat.add_assoc]; exact hc 2 _ rfl, by rw [Nat.add_assoc]; exact hc 3 _ rfl, h1⟩
end

section
variable {H : Type} {enc : TypeId × Value → H} {P : Program} {W : World} {r : Reach} {base0 base : Nat} {spare : Nat → Bool} {held : Bool}
/-- The type of a value: its four fields. -/
structure VlT (P : Program) (t : TypeId) (f0 f1 f2 f3 : Field) : Prop where
  u : P.underlying t = some (.struct #[f0, f1, f2, f3])
  c : P.cellsOf t = 4
  o0 : f0.offset = 0
  o1 : f1.offset = 1
  o2 : f2.offset = 2
  o3 : f3.offset = 3
  c0 : P.cellsOf f0.type = 1
  c1 : P.cellsOf f1.type = 1
  c2 : P.cellsOf f2.type = 1
  c3 : P.cellsOf f3.type = 1
  u0 : P.underlying f0.type = some (.int .i64)
  u1 : P.underlying f1.type = some (.int .i64)
  u2 : P.underlying f2.type = some .string
  u3 : P.underlying f3.type = some .bool
theorem open_v1 {t : TypeId} {f0 f1 f2 f3 : Field} (T : VlT P t f0 f1 f2 f3) {fuel : Nat} {cs : List Value} {x : DataW H × List MemPlace} (hl : cs.length = 4) (h : DataW.trod enc P W base spare held fuel t cs = some x) :
    ∃ o : Vl, cs = vals o ∧ V1 o := by
  obtain ⟨xs, k, hk, hxy, _, hxl, hf⟩ := DataW.trod_struct T.u h
  match xs, hxl, cs, hl with
  | [y0, y1, y2, y3], _, [v0, v1, v2, v3], _ =>
    have g0 := hf 0 f0 rfl
    have g1 := hf 1 f1 rfl
    have g2 := hf 2 f2 rfl
    have g3 := hf 3 f3 rfl
    simp [T.o0, T.o1, T.o2, T.o3, T.c0, T.c1, T.c2, T.c3] at g0 g1 g2 g3
    obtain ⟨a0, z0, _, w0⟩ := DataW.trod_int T.u0 g0
    obtain ⟨a1, z1, _, w1⟩ := DataW.trod_int T.u1 g1
    obtain ⟨s, z2, _, _⟩ := DataW.trod_string T.u2 g2
    obtain ⟨b, z3, _⟩ := DataW.trod_bool T.u3 g3
    simp only [List.cons.injEq, and_true] at z0 z1 z2 z3
    subst z0 z1 z2 z3
    exact ⟨⟨a0, a1, s, b⟩, rfl, ⟨w0, w1⟩⟩
theorem open_v {t : TypeId} {f0 f1 f2 f3 : Field} (T : VlT P t f0 f1 f2 f3) {v : Value} {d : DataW H} {ps : List MemPlace} (hok : Value.okWide P W r base0 t v) (h : DataW.Trod enc P W base spare held t v d ps) :
    ∃ k i s b, v = .agg #[.int .i64 k, .int .i64 i, .string s, .bool b] ∧ (Lit.int .i64 k).wf = true ∧ (Lit.int .i64 i).wf = true := by
  obtain ⟨cs, rfl, hsz⟩ := okWide_struct T.u hok
  obtain ⟨fuel, hf⟩ := h
  obtain ⟨⟨k, i, s, b⟩, e, h1⟩ := open_v1 T (by simpa [T.c, Value.cells] using hsz) hf
  refine ⟨k, i, s, b, ?_, h1.w0, h1.w1⟩
  simp only [Value.cells] at e
  have : cs = (vals ⟨k, i, s, b⟩).toArray := by rw [← e]
  rw [this]
  rfl
theorem open_vs {t e : TypeId} {f0 f1 f2 f3 : Field} (ht : P.underlying t = some (.slice e)) (T : VlT P e f0 f1 f2 f3) {v : Value} {d : DataW H} {ps : List MemPlace} (hok : Value.okWide P W r base0 t v) (h : DataW.Trod enc P W base spare held t v d ps) :
    ∃ A n c os, v = .slice A n c ∧ Vs W A n c os := by
  obtain ⟨A, n, c, rfl⟩ := okWide_slice ht hok
  obtain ⟨fuel, hf⟩ := h
  rcases Go.Deep.open_slice ht hf with ⟨hcs, _⟩ | ⟨a, len, cap, m, k, D, Pl, hcs, _, hl, hm, hmm, _, hx⟩
  · simp [Value.cells] at hcs
    obtain ⟨rfl, rfl, rfl⟩ := hcs
    exact ⟨none, 0, 0, [], rfl, Vs.none_ _⟩
  · simp [Value.cells] at hcs
    obtain ⟨rfl, rfl, rfl⟩ := hcs
    have hnm : n ≤ m := by rw [hmm]; split <;> omega
    rw [T.c] at hx
    obtain ⟨Y, hY⟩ := Go.Deep.choose_lt (α := Vl) (n := n) (p := fun i y => (∀ j v, (vals y)[j]? = some v → W.cell? (a.add (i * 4 + j)) = some v) ∧ V1 y) (fun i hi => by
      obtain ⟨cs', h1, h2⟩ := hx i (by omega)
      obtain ⟨_, hlen, hcell⟩ := World.cells?_some h1
      obtain ⟨o, e1, h3⟩ := open_v1 T hlen h2
      refine ⟨o, fun j v hv => ?_, h3⟩
      have hj : j < 4 := by
        have := (List.getElem?_eq_some_iff.1 hv).1
        simpa [vals] using this
      have h4 := hcell j hj
      rw [Go.Deep.add_add, e1, hv] at h4
      exact h4)
    refine ⟨some a, n, c, (List.range n).map Y, rfl, ⟨by simp, hl, hm, by simp, fun j hj => ?_⟩⟩
    simp only [List.length_map, List.length_range] at hj
    have hg : ((List.range n).map Y).getD j default = Y j := by simp [List.getD, hj]
    obtain ⟨h1, h2⟩ := hY j hj
    obtain ⟨b, off, spot⟩ := a
    have hs : spot = none := by simpa [Addr.add] using World.cell?_spot ((hY 0 (by omega)).1 0 _ rfl)
    subst hs
    have h5 := h1 0 _ rfl
    rw [Addr.add_lit] at h5
    refine ⟨b, off, rfl, World.block_lt_of_cell? W ⟨b, off + (j * 4 + 0), none⟩ h5, fun i v hv => ?_, by rw [hg]; exact h2⟩
    rw [hg] at hv
    have := h1 i v hv
    rwa [Addr.add_lit] at this
end
theorem vlT : ∃ f0 f1 f2 f3, VlT Tryz.prog 56 f0 f1 f2 f3 :=
  ⟨_, _, _, _, ⟨Tryz.underlying56, by kernel_rfl, rfl, rfl, rfl, rfl, by kernel_rfl, by kernel_rfl, by kernel_rfl, by kernel_rfl,
    Tryz.underlying3, Tryz.underlying3, Tryz.underlying9, Tryz.underlying4⟩⟩
end Wd
end Go.Proofs.YtoibpbnebcoafaaGreat
