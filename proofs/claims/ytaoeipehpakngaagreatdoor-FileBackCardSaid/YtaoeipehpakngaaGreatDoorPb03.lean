/- The bytes of a value in plain words, and the value that bytes begin with. No program, no memory. Schemas and the bytes of rows in plain words. No program, no memory. When a schema may be, column by column, and whether a row fits it; in plain words. No program, no memory. Dictionaries in plain and what goes with it. -/
import Derived.Laws.BytesArg
import Derived.Test.YtaoeipehpakngaaGreatDoorPb02
namespace Go.Proofs.YtaoeipehpakngaaGreatDoor
set_option maxRecDepth 20000
namespace Va
def byts (s : ByteArray) : List Int := s.data.toList.map fun b => (b.toNat : Int)
theorem byts_len (s : ByteArray) : (byts s).length = s.size := by
  unfold byts
  rw [List.length_map, Array.length_toList]
  rfl
theorem byts_byt (s : ByteArray) : Nm.Byt (byts s) := fun x hx => by
  obtain ⟨b, _, rfl⟩ := List.mem_map.1 hx
  have := b.toNat_lt
  omega
theorem str_byts (s : ByteArray) : strOfNums (byts s) = s := by
  unfold strOfNums byts
  rw [List.map_map, List.map_congr_left (g := id) (fun b _ => by simp)]
  simp
theorem byts_str {xs : List Int} (h : Nm.Byt xs) : byts (strOfNums xs) = xs := by
  unfold byts
  rw [strOfNums_data, List.map_map, List.map_congr_left (g := id) (fun x hx => ?_), List.map_id]
  have := h x hx
  simp only [Function.comp_apply, id_eq, UInt8.toNat_ofNat']
  omega
def put (v : Vl) : List Int :=
  if v.kind = 1 then Nm.vd (Nm.zz v.i) else if v.kind = 2 then Nm.vd v.s.size ++ byts v.s else if v.kind = 3 then [if v.b then 1 else 0] else []
def get (b : List Int) (kind : Int) : Vl × Int × Int :=
  if kind = 0 then (null, 0, 0)
  else if kind = 1 then (if (Nm.getI b).2.2 = 0 then (⟨1, (Nm.getI b).1, ⟨#[]⟩, false⟩, (Nm.getI b).2.1, 0) else (null, 0, (Nm.getI b).2.2))
  else if kind = 2 then
    (if (Nm.getL b).2.2 ≠ 0 then (null, 0, (Nm.getL b).2.2) else if 64 < (Nm.getL b).1 then (null, 0, 2)
     else if (b.length : Int) < (Nm.getL b).2.1 + (Nm.getL b).1 then (null, 0, 6)
     else (⟨2, 0, strOfNums ((b.drop (Nm.getL b).2.1.toNat).take (Nm.getL b).1.toNat), false⟩, (Nm.getL b).2.1 + (Nm.getL b).1, 0))
  else if kind = 3 then
    (match b with
     | [] => (null, 0, 6)
     | c :: _ => if 1 < c then (null, 0, 7) else (⟨3, 0, ⟨#[]⟩, c == 1⟩, 1, 0))
  else (null, 0, 1)
def any (b : List Int) : Vl × Int × Int :=
  match b with
  | [] => (null, 0, 6)
  | c :: r => if 3 < c then (null, 0, 7) else if (get r c).2.2 = 0 then ((get r c).1, (get r c).2.1 + 1, 0) else (null, 0, (get r c).2.2)
theorem put_len {v : Vl} (h : May v) : (put v).length ≤ 74 := by
  obtain ⟨k, i, s, b⟩ := v
  unfold May at h
  simp only [] at h
  unfold put
  rcases h with ⟨rfl, _⟩ | ⟨rfl, _⟩ | ⟨rfl, _, hs, _⟩ | ⟨rfl, _⟩
  · simp
  · have := Nm.vd_len (Nm.zz i)
    simp
    omega
  · have := Nm.vd_len (s.size : Int)
    have := byts_len s
    simp
    omega
  · simp
theorem put_byt {v : Vl} (h : May v) (h1 : -9223372036854775808 ≤ v.i) (h2 : v.i ≤ 9223372036854775807) : Nm.Byt (put v) := by
  obtain ⟨k, i, s, b⟩ := v
  unfold May at h
  simp only [] at h h1 h2
  unfold put
  rcases h with ⟨rfl, _⟩ | ⟨rfl, _⟩ | ⟨rfl, _, hs, _⟩ | ⟨rfl, _⟩
  · intro x hx; simp at hx
  · exact Nm.vd_byt _ (Nm.zz_lo i) (Nm.zz_hi i h1 h2)
  · exact Lw.byt_app (Nm.vd_byt _ (by omega) (by show (s.size : Int) ≤ _; omega)) (byts_byt s)
  · intro x hx
    simp at hx
    cases b <;> simp at hx <;> omega
theorem get_put {v : Vl} (h : May v) (h1 : -9223372036854775808 ≤ v.i) (h2 : v.i ≤ 9223372036854775807) (more : List Int) : get (put v ++ more) v.kind = (v, ((put v).length : Int), 0) := by
  obtain ⟨k, i, s, b⟩ := v
  unfold May at h
  simp only [] at h h1 h2
  unfold put get
  rcases h with ⟨rfl, rfl, rfl, rfl⟩ | ⟨rfl, rfl, rfl⟩ | ⟨rfl, rfl, hs, rfl⟩ | ⟨rfl, rfl, rfl⟩
  · simp [null]
  · simp only [if_pos, show ¬ ((1 : Int) = 0) by omega, if_neg, not_false_eq_true]
    rw [Lw.getI_vd i more h1 h2]
    simp
  · simp only [show ¬ ((2 : Int) = 0) by omega, show ¬ ((2 : Int) = 1) by omega, if_pos, if_neg, not_false_eq_true]
    rw [List.append_assoc, Lw.getL_vd (s.size : Int) (byts s ++ more) (by omega) (by omega)]
    have hl := byts_len s
    rw [if_neg (by simp), if_neg (by simp; omega), if_neg (by simp; omega)]
    simp only [Int.toNat_natCast]
    rw [List.drop_left, List.take_left' hl, str_byts]
    simp
    omega
  · cases b <;> simp
theorem any_put {v : Vl} (h : May v) (h1 : -9223372036854775808 ≤ v.i) (h2 : v.i ≤ 9223372036854775807) (more : List Int) : any (v.kind :: (put v ++ more)) = (v, ((put v).length : Int) + 1, 0) := by
  have hk : ¬ 3 < v.kind := by
    rcases h with ⟨q, _⟩ | ⟨q, _⟩ | ⟨q, _⟩ | ⟨q, _⟩ <;> omega
  unfold any
  simp only []
  rw [if_neg hk, get_put h h1 h2 more, if_pos rfl]
theorem byt_take {b : List Int} (h : Nm.Byt b) (k : Nat) : Nm.Byt (b.take k) := fun x hx => h x (List.mem_of_mem_take hx)
theorem byt_drop {b : List Int} (h : Nm.Byt b) (k : Nat) : Nm.Byt (b.drop k) := fun x hx => h x (List.mem_of_mem_drop hx)
theorem getI_ok {b : List Int} (hb : Nm.Byt b) (h : (Nm.getI b).2.2 = 0) : ∃ (k : Nat) (n : Int), Nm.getI b = (n, (k : Int), 0) ∧ k ≤ b.length ∧ -9223372036854775808 ≤ n ∧ n ≤ 9223372036854775807 ∧ b.take k = Nm.vd (Nm.zz n) := by
  have h0 : (Nm.gv b).2.2 = 0 := by
    unfold Nm.getI at h
    split at h
    · assumption
    · exact h
  obtain ⟨k, u, e, k1, k2, k3, u0, u1, ht, _⟩ := Nm.gv_only b hb h0
  have hu := Nm.unz_bd u u0 u1
  exact ⟨k, Nm.unz u, by unfold Nm.getI; rw [e]; simp, k2, hu.1, hu.2, by rw [ht, Nm.zz_unz u u0]⟩
theorem getL_ok {b : List Int} (hb : Nm.Byt b) (h : (Nm.getL b).2.2 = 0) : ∃ (k n : Nat), Nm.getL b = ((n : Int), (k : Int), 0) ∧ k ≤ b.length ∧ (n : Int) ≤ 9223372036854775807 ∧ b.take k = Nm.vd (n : Int) := by
  have h0 : (Nm.gv b).2.2 = 0 := by
    unfold Nm.getL at h
    split at h
    · assumption
    · exact h
  obtain ⟨k, u, e, k1, k2, k3, u0, u1, ht, _⟩ := Nm.gv_only b hb h0
  have hu : u ≤ 9223372036854775807 := by
    unfold Nm.getL at h
    rw [e] at h
    simp only [if_pos] at h
    split at h
    · cases h
    · omega
  refine ⟨k, u.toNat, ?_, k2, by omega, by rw [ht]; congr 1; omega⟩
  unfold Nm.getL
  rw [e]
  simp only [if_pos]
  rw [if_neg (by omega), show ((u.toNat : Nat) : Int) = u by omega]
theorem get_only {b : List Int} (hb : Nm.Byt b) (kind : Int) (h : (get b kind).2.2 = 0) : ∃ (y : Vl) (j : Nat), get b kind = (y, (j : Int), 0) ∧ May y ∧ y.kind = kind ∧ j ≤ b.length ∧ put y = b.take j ∧ -9223372036854775808 ≤ y.i ∧ y.i ≤ 9223372036854775807 := by
  unfold get at h ⊢
  by_cases k0 : kind = 0
  · subst k0
    exact ⟨null, 0, by simp, may_null, rfl, by omega, by simp [put, null], by simp [null], by simp [null]⟩
  rw [if_neg k0] at h ⊢
  by_cases k1 : kind = 1
  · subst k1
    rw [if_pos rfl] at h ⊢
    by_cases h0 : (Nm.getI b).2.2 = 0
    · obtain ⟨k, n, e, hk, n1, n2, ht⟩ := getI_ok hb h0
      rw [e]
      exact ⟨⟨1, n, ⟨#[]⟩, false⟩, k, by simp, .inr (.inl ⟨rfl, rfl, rfl⟩), rfl, hk, by rw [ht]; simp [put], n1, n2⟩
    · rw [if_neg h0] at h
      exact absurd h h0
  rw [if_neg k1] at h ⊢
  by_cases k2 : kind = 2
  · subst k2
    rw [if_pos rfl] at h ⊢
    by_cases h0 : (Nm.getL b).2.2 = 0
    · obtain ⟨k, n, e, hk, n1, ht⟩ := getL_ok hb h0
      rw [e] at h ⊢
      simp only [ne_eq, not_true_eq_false, if_false, Int.toNat_natCast] at h ⊢
      by_cases q1 : 64 < (n : Int)
      · rw [if_pos q1] at h
        cases h
      rw [if_neg q1] at h ⊢
      by_cases q2 : (b.length : Int) < (k : Int) + (n : Int)
      · rw [if_pos q2] at h
        cases h
      rw [if_neg q2]
      have hsz : (strOfNums ((b.drop k).take n)).size = n := by
        rw [strOfNums_size, List.length_take, List.length_drop]
        omega
      refine ⟨⟨2, 0, strOfNums ((b.drop k).take n), false⟩, k + n, by simp, .inr (.inr (.inl ⟨rfl, rfl, by rw [hsz]; omega, rfl⟩)), rfl, by omega, ?_, by simp, by simp⟩
      simp only [put, show ¬ ((2 : Int) = 1) by omega, if_pos, if_neg, not_false_eq_true]
      rw [hsz, byts_str (byt_take (byt_drop hb k) n), ← ht, List.take_add]
    · rw [if_pos h0] at h
      exact absurd h h0
  rw [if_neg k2] at h ⊢
  by_cases k3 : kind = 3
  · subst k3
    rw [if_pos rfl] at h ⊢
    match b, h, hb with
    | [], h, _ => cases h
    | c :: r, h, hb =>
      simp only [] at h ⊢
      have hc := hb c (by simp)
      by_cases q : 1 < c
      · rw [if_pos q] at h
        cases h
      rw [if_neg q]
      refine ⟨⟨3, 0, ⟨#[]⟩, c == 1⟩, 1, by simp, .inr (.inr (.inr ⟨rfl, rfl, rfl⟩)), rfl, by simp, ?_, by simp, by simp⟩
      have : c = 0 ∨ c = 1 := by omega
      rcases this with rfl | rfl <;> simp [put]
  · rw [if_neg k3] at h
    cases h
end Va
namespace Sc
open Va
structure Col where
  name : ByteArray
  kind : Int
  nul : Bool
structure Sch where
  cols : List Col
  key : Int
  cmp : Int
  del : Int
  sort : Int
def Ok (v : Vl) : Prop := May v ∧ -9223372036854775808 ≤ v.i ∧ v.i ≤ 9223372036854775807
theorem ok_null : Ok null := ⟨may_null, by simp [null], by simp [null]⟩
def fit1 (c : Col) (v : Vl) : Prop := Ok v ∧ (v.kind = c.kind ∨ (v.kind = 0 ∧ c.nul = true))
def fits : List Col → List Vl → Prop
  | [], [] => True
  | c :: cs, v :: vs => fit1 c v ∧ fits cs vs
  | _, _ => False
theorem fits_len : ∀ {cs : List Col} {vs : List Vl}, fits cs vs → vs.length = cs.length
  | [], [], _ => rfl
  | [], _ :: _, h => h.elim
  | _ :: _, [], h => h.elim
  | _ :: _, _ :: _, h => by simp [fits_len h.2]
def nameOk (s : ByteArray) : Prop := 1 ≤ s.size ∧ s.size ≤ 16 ∧ ∀ x ∈ byts s, (97 ≤ x ∧ x ≤ 122) ∨ (48 ≤ x ∧ x ≤ 57) ∨ x = 95
def whole (s : Sch) (i : Int) : Prop := 0 ≤ i ∧ ∃ c, s.cols[i.toNat]? = some c ∧ c.nul = false
def whole1 (s : Sch) (i : Int) (k : Int) : Prop := 0 ≤ i ∧ ∃ c, s.cols[i.toNat]? = some c ∧ c.nul = false ∧ c.kind = k
def MayS (s : Sch) : Prop :=
  1 ≤ s.cols.length ∧ s.cols.length ≤ 8 ∧ -1 ≤ s.sort ∧ s.sort < s.cols.length ∧ (∀ c ∈ s.cols, nameOk c.name ∧ 1 ≤ c.kind ∧ c.kind ≤ 3) ∧ (s.cols.map Col.name).Nodup
    ∧ ((s.key = -1 ∧ s.cmp = -1 ∧ s.del = -1) ∨ (s.key ≠ -1 ∧ whole s s.key ∧ whole1 s s.cmp 1 ∧ (s.del = -1 ∨ whole1 s s.del 3)))
def findF : List Col → ByteArray → Int → Int
  | [], _, _ => -1
  | c :: cs, s, i => if c.name = s then i else findF cs s (i + 1)
end Sc
namespace Sc
open Va
instance : Inhabited Col := ⟨⟨⟨#[]⟩, 0, false⟩⟩
noncomputable def tr (p : Prop) : Bool := @decide p (Classical.propDecidable p)
theorem tr_yes {p : Prop} (h : p) : tr p = true := by unfold tr; exact (@decide_eq_true_iff p (Classical.propDecidable p)).2 h
theorem tr_no {p : Prop} (h : ¬ p) : tr p = false := by unfold tr; exact (@decide_eq_false_iff_not p (Classical.propDecidable p)).2 h
theorem tr_iff {p : Prop} : tr p = true ↔ p := by unfold tr; exact @decide_eq_true_iff p (Classical.propDecidable p)
theorem tr_congr {p q : Prop} (h : p ↔ q) : tr p = tr q := by rw [Bool.eq_iff_iff, tr_iff, tr_iff]; exact h
theorem get_mem {cs : List Col} {i : Nat} (h : i < cs.length) : cs.getD i default ∈ cs := by
  simp [List.getD, List.getElem?_eq_getElem h]
theorem mem_get {cs : List Col} {c : Col} (h : c ∈ cs) : ∃ i, i < cs.length ∧ cs.getD i default = c := by
  obtain ⟨i, hi, e⟩ := List.getElem_of_mem h
  exact ⟨i, hi, by simp [List.getD, List.getElem?_eq_getElem hi, e]⟩
theorem all_get {cs : List Col} {p : Col → Prop} : (∀ c ∈ cs, p c) ↔ ∀ i, i < cs.length → p (cs.getD i default) :=
  ⟨fun h i hi => h _ (get_mem hi), fun h c hc => by obtain ⟨i, hi, rfl⟩ := mem_get hc; exact h i hi⟩
theorem find_none : ∀ (cs : List Col) (s : ByteArray) (a : Int), (∀ j, j < cs.length → (cs.getD j default).name ≠ s) → findF cs s a = -1
  | [], _, _, _ => rfl
  | c :: cs, s, a, h => by
    rw [findF, if_neg (by simpa using h 0 (by simp))]
    exact find_none cs s (a + 1) (fun j hj => by simpa using h (j + 1) (by simp; omega))
theorem find_at : ∀ (cs : List Col) (s : ByteArray) (a : Int) (k : Nat), k < cs.length → (∀ j, j < k → (cs.getD j default).name ≠ s) → (cs.getD k default).name = s → findF cs s a = a + k
  | [], _, _, _, h, _, _ => by simp at h
  | c :: cs, s, a, 0, _, _, h => by
    rw [findF, if_pos (by simpa using h)]
    simp
  | c :: cs, s, a, k + 1, hk, hj, h => by
    rw [findF, if_neg (by simpa using hj 0 (by omega)), find_at cs s (a + 1) k (by simpa using hk) (fun j q => by simpa using hj (j + 1) (by omega)) (by simpa using h)]
    omega
def sgn (x : Int) : Prop := (97 ≤ x ∧ x ≤ 122) ∨ (48 ≤ x ∧ x ≤ 57) ∨ x = 95
def colOk (c : Col) : Prop := nameOk c.name ∧ 1 ≤ c.kind ∧ c.kind ≤ 3
def MayC (cs : List Col) : Prop := 1 ≤ cs.length ∧ cs.length ≤ 8 ∧ (∀ c ∈ cs, nameOk c.name ∧ 1 ≤ c.kind ∧ c.kind ≤ 3) ∧ (cs.map Col.name).Nodup
theorem nodup_names (cs : List Col) : (cs.map Col.name).Nodup ↔ ∀ i, i < cs.length → ∀ k, k < i → (cs.getD k default).name ≠ (cs.getD i default).name := by
  rw [List.Nodup, List.pairwise_iff_getElem]
  simp only [List.length_map, List.getElem_map]
  constructor
  · intro h i hi k hk
    have := h k i (by omega) hi hk
    simpa [List.getD, List.getElem?_eq_getElem hi, List.getElem?_eq_getElem (show k < cs.length by omega)] using this
  · intro h k i hk hi hki
    have := h i hi k hki
    simpa [List.getD, List.getElem?_eq_getElem hi, List.getElem?_eq_getElem hk] using this
theorem mayC_find (cs : List Col) : MayC cs ↔ 1 ≤ cs.length ∧ cs.length ≤ 8 ∧ ∀ i, i < cs.length → nameOk (cs.getD i default).name ∧ findF cs (cs.getD i default).name 0 = i ∧ 1 ≤ (cs.getD i default).kind ∧ (cs.getD i default).kind ≤ 3 := by
  unfold MayC
  rw [all_get, nodup_names]
  constructor
  · rintro ⟨a, b, h, n⟩
    exact ⟨a, b, fun i hi => ⟨(h i hi).1, by have := find_at cs _ 0 i hi (n i hi) rfl; omega, (h i hi).2⟩⟩
  · rintro ⟨a, b, h⟩
    refine ⟨a, b, fun i hi => ⟨(h i hi).1, (h i hi).2.2⟩, ?_⟩
    -- the least column of that name stands ahead
    intro i
    induction i using Nat.strongRecOn with
    | ind i ih =>
      intro hi k hk e
      by_cases q : ∀ j, j < k → (cs.getD j default).name ≠ (cs.getD k default).name
      · have := find_at cs (cs.getD k default).name 0 k (by omega) q rfl
        rw [e, (h i hi).2.1] at this
        omega
      · exact q fun j hj => ih k hk (by omega) j hj
theorem mayC_pair (cs : List Col) : MayC cs ↔ 1 ≤ cs.length ∧ cs.length ≤ 8 ∧ ∀ i, i < cs.length → colOk (cs.getD i default) ∧ ∀ k, k < i → (cs.getD k default).name ≠ (cs.getD i default).name := by
  unfold MayC
  rw [all_get, nodup_names]
  exact ⟨fun ⟨a, b, h, n⟩ => ⟨a, b, fun i hi => ⟨h i hi, n i hi⟩⟩, fun ⟨a, b, h⟩ => ⟨a, b, fun i hi => (h i hi).1, fun i hi => (h i hi).2⟩⟩
def MayK (s : Sch) : Prop := (s.key = -1 ∧ s.cmp = -1 ∧ s.del = -1) ∨ (s.key ≠ -1 ∧ whole s s.key ∧ whole1 s s.cmp 1 ∧ (s.del = -1 ∨ whole1 s s.del 3))
theorem mayS_iff (s : Sch) : MayS s ↔ MayC s.cols ∧ MayK s ∧ -1 ≤ s.sort ∧ s.sort < s.cols.length := by
  unfold MayS MayC MayK
  constructor
  · rintro ⟨a, b, c, d, e, f, g⟩; exact ⟨⟨a, b, e, f⟩, g, c, d⟩
  · rintro ⟨⟨a, b, e, f⟩, g, c, d⟩; exact ⟨a, b, c, d, e, f, g⟩
theorem whole_get (s : Sch) (i : Int) : whole s i ↔ 0 ≤ i ∧ i < s.cols.length ∧ (s.cols.getD i.toNat default).nul = false := by
  unfold whole
  constructor
  · rintro ⟨h, c, hc, hn⟩
    have hlt := (List.getElem?_eq_some_iff.1 hc).1
    exact ⟨h, by omega, by rw [List.getD, hc]; exact hn⟩
  · rintro ⟨h, hl, hn⟩
    have hlt : i.toNat < s.cols.length := by omega
    exact ⟨h, _, List.getElem?_eq_getElem hlt, by simpa [List.getD, List.getElem?_eq_getElem hlt] using hn⟩
theorem whole1_get (s : Sch) (i k : Int) : whole1 s i k ↔ whole s i ∧ (s.cols.getD i.toNat default).kind = k := by
  rw [whole_get]
  unfold whole1
  constructor
  · rintro ⟨h, c, hc, hn, hk⟩
    have hlt := (List.getElem?_eq_some_iff.1 hc).1
    exact ⟨⟨h, by omega, by rw [List.getD, hc]; exact hn⟩, by rw [List.getD, hc]; exact hk⟩
  · rintro ⟨⟨h, hl, hn⟩, hk⟩
    have hlt : i.toNat < s.cols.length := by omega
    exact ⟨h, _, List.getElem?_eq_getElem hlt, by simpa [List.getD, List.getElem?_eq_getElem hlt] using hn, by simpa [List.getD, List.getElem?_eq_getElem hlt] using hk⟩
theorem fits_get : ∀ (cs : List Col) (vs : List Vl), fits cs vs ↔ vs.length = cs.length ∧ ∀ i, i < cs.length → fit1 (cs.getD i default) (vs.getD i ⟨0, 0, ⟨#[]⟩, false⟩)
  | [], [] => by simp [fits]
  | [], _ :: _ => by simp [fits]
  | _ :: _, [] => by simp [fits]
  | c :: cs, v :: vs => by
    rw [fits, fits_get cs vs]
    constructor
    · rintro ⟨h, hl, hi⟩
      refine ⟨by simp [hl], fun i q => ?_⟩
      cases i with
      | zero => simpa using h
      | succ i => simpa using hi i (by simpa using q)
    · rintro ⟨hl, hi⟩
      exact ⟨by simpa using hi 0 (by simp), by simpa using hl, fun i q => by simpa using hi (i + 1) (by simpa using q)⟩
def FitS (s : Sch) (vs : List Vl) : Prop := MayS s ∧ fits s.cols vs
theorem fit1_iff (c : Col) (v : Vl) (h : Ok v) : fit1 c v ↔ ¬ (v.kind ≠ c.kind ∧ ¬ (c.nul = true ∧ v.kind = 0)) := by
  unfold fit1
  constructor
  · rintro ⟨_, q | q⟩ ⟨a, b⟩
    · exact a q
    · exact b ⟨q.2, q.1⟩
  · intro q
    by_cases a : v.kind = c.kind
    · exact ⟨h, .inl a⟩
    · by_cases b : c.nul = true ∧ v.kind = 0
      · exact ⟨h, .inr ⟨b.2, b.1⟩⟩
      · exact absurd ⟨a, b⟩ q
end Sc
namespace Dc
open Va
open Sc (tr tr_yes tr_no tr_iff)
instance : DecidableEq Vl := fun a b =>
  if h : a.kind = b.kind ∧ a.i = b.i ∧ a.s = b.s ∧ a.b = b.b then .isTrue (by obtain ⟨k, i, s, t⟩ := a; obtain ⟨k', i', s', t'⟩ := b; obtain ⟨rfl, rfl, rfl, rfl⟩ := h; rfl)
  else .isFalse fun e => h (by subst e; exact ⟨rfl, rfl, rfl, rfl⟩)
theorem lt_irrefl (a : Vl) : ¬ ord a a < 0 := by rw [ord_self]; omega
theorem lt_trans {a b c : Vl} (h : ord a b < 0) (k : ord b c < 0) : ord a c < 0 := by
  have h1 := ord_le_trans (Int.le_of_lt h) (Int.le_of_lt k)
  by_cases q : ord a c = 0
  · have n1 := ord_neg c a
    have h2 : ord c b ≤ 0 := ord_le_trans (b := a) (by omega) (by omega)
    have n2 := ord_neg c b
    omega
  · omega
def place (l : List Vl) (v : Vl) : Nat := l.countP fun x => decide (ord x v < 0)
def Up (l : List Vl) : Prop := l.Pairwise fun a b => ord a b < 0
def Ris (l : List Vl) : Prop := (∀ x ∈ l, May x) ∧ Up l
theorem place_perm {a b : List Vl} (h : a.Perm b) (v : Vl) : place a v = place b v := h.countP_eq _
theorem up_tail {a : Vl} {l : List Vl} (h : Up (a :: l)) : Up l := (List.pairwise_cons.1 h).2
theorem up_head {a : Vl} {l : List Vl} (h : Up (a :: l)) : ∀ x ∈ l, ord a x < 0 := (List.pairwise_cons.1 h).1
theorem up_nodup {l : List Vl} (h : Up l) : l.Nodup := List.Pairwise.imp (S := fun a b => a ≠ b) (fun {a b} q e => by subst e; exact lt_irrefl a q) h
theorem place_zero {l : List Vl} {v : Vl} (h : ∀ x ∈ l, ¬ ord x v < 0) : place l v = 0 := by
  unfold place
  rw [List.countP_eq_zero]
  intro x hx
  simpa using h x hx
theorem up_split : ∀ {l : List Vl} (_ : Up l) (v : Vl) (i : Nat) (x : Vl), l[i]? = some x → (ord x v < 0 ↔ i < place l v)
  | [], _, _, _, _, h => by simp at h
  | a :: l, hu, v, i, x, h => by
    by_cases ha : ord a v < 0
    · have e : place (a :: l) v = place l v + 1 := by simp [place, ha]
      cases i with
      | zero =>
        simp at h
        subst h
        rw [e]
        exact ⟨fun _ => by omega, fun _ => ha⟩
      | succ i =>
        rw [List.getElem?_cons_succ] at h
        rw [up_split (up_tail hu) v i x h, e]
        omega
    · have hz : ∀ y ∈ a :: l, ¬ ord y v < 0 := by
        intro y hy
        rcases List.mem_cons.1 hy with rfl | hy
        · exact ha
        · exact fun q => ha (lt_trans (up_head hu y hy) q)
      have hx : x ∈ a :: l := List.mem_of_getElem? h
      rw [place_zero hz]
      exact ⟨fun q => absurd q (hz x hx), fun q => by omega⟩
theorem up_place {l : List Vl} (h : Up l) {i : Nat} {x : Vl} (hx : l[i]? = some x) : place l x = i := by
  have hi : i < l.length := (List.getElem?_eq_some_iff.1 hx).1
  have h1 : ¬ i < place l x := fun q => lt_irrefl x ((up_split h x i x hx).2 q)
  by_cases q : place l x < i
  · have hp : place l x < l.length := by omega
    have hy : l[place l x]? = some (l[place l x]) := List.getElem?_eq_getElem hp
    have h2 := (up_split h x _ _ hy)
    have h3 : ¬ ord (l[place l x]) x < 0 := fun z => by have := h2.1 z; omega
    have h4 : ord (l[place l x]) x < 0 := by
      have e : l[i] = x := (List.getElem?_eq_some_iff.1 hx).2
      have := (List.pairwise_iff_getElem.1 h) (place l x) i hp hi q
      rw [e] at this
      exact this
    exact absurd h4 h3
  · omega
theorem le_up {l : List Vl} (hm : ∀ x ∈ l, May x) (hn : l.Nodup) (h : l.Pairwise fun a b => ord a b ≤ 0) : Up l := by
  induction l with
  | nil => exact List.Pairwise.nil
  | cons a l ih =>
    rw [List.pairwise_cons] at h
    rw [List.nodup_cons] at hn
    refine List.pairwise_cons.2 ⟨fun x hx => ?_, ih (fun x hx => hm x (by simp [hx])) hn.2 h.2⟩
    have h1 := h.1 x hx
    by_cases q : ord a x = 0
    · have := (ord_zero (hm a (by simp)) (hm x (by simp [hx]))).1 q
      subst this
      exact absurd hx hn.1
    · omega
def fndF : List Vl → Vl → Int → Int
  | [], _, _ => -1
  | a :: l, v, i => if a = v then i else fndF l v (i + 1)
def fnd (l : List Vl) (v : Vl) : Int := fndF l v 0
theorem fndF_none : ∀ {l : List Vl} {v : Vl} (i : Int), v ∉ l → fndF l v i = -1
  | [], _, _, _ => rfl
  | a :: l, v, i, h => by
    rw [fndF, if_neg fun e => h (by simp [e])]
    exact fndF_none _ fun q => h (by simp [q])
theorem fndF_some : ∀ {l : List Vl} {v : Vl} (i : Int), v ∈ l → ∃ k : Nat, fndF l v i = i + k ∧ l[k]? = some v ∧ ∀ j : Nat, j < k → l[j]? ≠ some v
  | [], _, _, h => by simp at h
  | a :: l, v, i, h => by
    by_cases e : a = v
    · exact ⟨0, by rw [fndF, if_pos e]; simp, by simp [e], fun j hj => by omega⟩
    · rcases List.mem_cons.1 h with q | q
      · exact absurd q.symm e
      · obtain ⟨k, h1, h2, h3⟩ := fndF_some (i + 1) q
        refine ⟨k + 1, by rw [fndF, if_neg e, h1]; omega, by simpa using h2, fun j hj => ?_⟩
        cases j with
        | zero => simp [e]
        | succ j => simpa using h3 j (by omega)
theorem fnd_none {l : List Vl} {v : Vl} (h : v ∉ l) : fnd l v = -1 := fndF_none 0 h
theorem fnd_some {l : List Vl} {v : Vl} (h : v ∈ l) : ∃ k : Nat, fnd l v = (k : Int) ∧ l[k]? = some v ∧ ∀ j : Nat, j < k → l[j]? ≠ some v := by
  obtain ⟨k, h1, h2⟩ := fndF_some 0 h
  exact ⟨k, by unfold fnd; rw [h1]; omega, h2⟩
theorem fnd_pos {l : List Vl} {v : Vl} : 0 ≤ fnd l v ↔ v ∈ l := by
  by_cases h : v ∈ l
  · obtain ⟨k, hk, _⟩ := fnd_some h
    rw [hk]
    exact ⟨fun _ => h, fun _ => by omega⟩
  · rw [fnd_none h]
    exact ⟨fun q => by omega, fun q => absurd q h⟩
theorem fnd_at {l : List Vl} (hn : l.Nodup) {i : Nat} {v : Vl} (h : l[i]? = some v) : fnd l v = (i : Int) := by
  obtain ⟨k, h1, h2, _⟩ := fnd_some (List.mem_of_getElem? h)
  have hi := List.getElem?_eq_some_iff.1 h
  have hk := List.getElem?_eq_some_iff.1 h2
  have : k = i := (List.getElem_inj hn).1 (hk.2.trans hi.2.symm)
  rw [h1, this]
def lim (k : Int) : Int := if k < 0 then 0 else if 4096 < k then 4096 else k
theorem lim_bd (k : Int) : 0 ≤ lim k ∧ lim k ≤ 4096 := by
  unfold lim
  split
  · omega
  · split <;> omega
noncomputable def add (l : List Vl) (k : Int) (v : Vl) : List Vl × Int × Int :=
  if tr (May v) = true then (if v ∈ l then (l, fnd l v, 0) else if lim k ≤ l.length then (l, 0, 4) else (l ++ [v], (l.length : Int), 0)) else (l, 0, 1)
theorem add_bad {l : List Vl} {k : Int} {v : Vl} (h : ¬ May v) : add l k v = (l, 0, 1) := by unfold add; rw [tr_no h]; rfl
theorem add_old {l : List Vl} {k : Int} {v : Vl} (h : May v) (h1 : v ∈ l) : add l k v = (l, fnd l v, 0) := by unfold add; rw [if_pos (tr_yes h), if_pos h1]
theorem add_full {l : List Vl} {k : Int} {v : Vl} (h : May v) (h1 : v ∉ l) (h2 : lim k ≤ l.length) : add l k v = (l, 0, 4) := by unfold add; rw [if_pos (tr_yes h), if_neg h1, if_pos h2]
theorem add_new {l : List Vl} {k : Int} {v : Vl} (h : May v) (h1 : v ∉ l) (h2 : l.length < lim k) : add l k v = (l ++ [v], (l.length : Int), 0) := by unfold add; rw [if_pos (tr_yes h), if_neg h1, if_neg (by omega)]
theorem add_cases (l : List Vl) (k : Int) (v : Vl) : (add l k v).1 = l ∨ (May v ∧ v ∉ l ∧ (l.length : Int) < lim k ∧ add l k v = (l ++ [v], (l.length : Int), 0)) := by
  by_cases h : May v
  · by_cases h1 : v ∈ l
    · rw [add_old h h1]; exact .inl rfl
    · by_cases h2 : lim k ≤ l.length
      · rw [add_full h h1 h2]; exact .inl rfl
      · exact .inr ⟨h, h1, by omega, add_new h h1 (by omega)⟩
  · rw [add_bad h]; exact .inl rfl
structure Dis (l : List Vl) (k : Int) : Prop where
  may : ∀ x ∈ l, May x
  nd : l.Nodup
  len : (l.length : Int) ≤ lim k
theorem dis_nil (k : Int) : Dis [] k := ⟨fun _ h => by simp at h, List.nodup_nil, by have := lim_bd k; simp; omega⟩
theorem dis_add {l : List Vl} {k : Int} (h : Dis l k) (v : Vl) : Dis (add l k v).1 k := by
  rcases add_cases l k v with e | ⟨hm, hn, hl, e⟩
  · rw [e]; exact h
  · rw [e]
    refine ⟨fun x hx => ?_, ?_, by simp; omega⟩
    · rcases List.mem_append.1 hx with q | q
      · exact h.may x q
      · rw [List.mem_singleton.1 q]; exact hm
    · exact List.nodup_append.2 ⟨h.nd, by simp, fun a ha b hb q => hn (by rw [List.mem_singleton.1 hb] at q; rw [← q]; exact ha)⟩
theorem add_all {P : Vl → Prop} {l : List Vl} {k : Int} {v : Vl} (h : ∀ x ∈ l, P x) (hv : P v) : ∀ x ∈ (add l k v).1, P x := by
  rcases add_cases l k v with e | ⟨_, _, _, e⟩
  · rw [e]; exact h
  · rw [e]
    intro x hx
    rcases List.mem_append.1 hx with q | q
    · exact h x q
    · rw [List.mem_singleton.1 q]; exact hv
theorem add_mem {l : List Vl} {k : Int} {v : Vl} (hl : (l.length : Int) < lim k) (x : Vl) : x ∈ (add l k v).1 ↔ x ∈ l ∨ (x = v ∧ May v) := by
  by_cases hm : May v
  · by_cases h1 : v ∈ l
    · rw [add_old hm h1]
      exact ⟨.inl, fun q => by rcases q with q | ⟨rfl, _⟩ <;> assumption⟩
    · rw [add_new hm h1 hl]
      simp [hm]
  · rw [add_bad hm]
    refine ⟨.inl, fun q => ?_⟩
    rcases q with q | ⟨_, q⟩
    · exact q
    · exact absurd q hm
noncomputable def adds (k : Int) : List Vl → List Vl → List Vl
  | l, [] => l
  | l, v :: vs => adds k (add l k v).1 vs
theorem adds_app (k : Int) : ∀ (l a b : List Vl), adds k l (a ++ b) = adds k (adds k l a) b
  | _, [], _ => rfl
  | _, _ :: a, b => adds_app k _ a b
theorem dis_adds {k : Int} : ∀ {l : List Vl} (vs : List Vl), Dis l k → Dis (adds k l vs) k
  | _, [], h => h
  | _, v :: vs, h => dis_adds vs (dis_add h v)
theorem adds_all {P : Vl → Prop} {k : Int} : ∀ {l : List Vl} (vs : List Vl), (∀ x ∈ l, P x) → (∀ x ∈ vs, P x) → ∀ x ∈ adds k l vs, P x
  | _, [], h, _ => h
  | _, v :: vs, h, hv => adds_all vs (add_all h (hv v (by simp))) fun x hx => hv x (by simp [hx])
theorem adds_len (k : Int) : ∀ (l vs : List Vl), (adds k l vs).length ≤ l.length + vs.length
  | _, [] => by simp [adds]
  | l, v :: vs => by
    have h := adds_len k (add l k v).1 vs
    have h1 : (add l k v).1.length ≤ l.length + 1 := by
      rcases add_cases l k v with e | ⟨_, _, _, e⟩ <;> rw [e] <;> simp
    rw [adds, List.length_cons]
    omega
theorem adds_mem {k : Int} : ∀ {l : List Vl} (vs : List Vl), ((l.length + vs.length : Nat) : Int) ≤ lim k → ∀ x, x ∈ adds k l vs ↔ x ∈ l ∨ (x ∈ vs ∧ May x)
  | _, [], _, x => by simp [adds]
  | l, v :: vs, h, x => by
    have h1 : (add l k v).1.length ≤ l.length + 1 := by
      rcases add_cases l k v with e | ⟨_, _, _, e⟩ <;> rw [e] <;> simp
    rw [List.length_cons] at h
    rw [adds, adds_mem vs (by omega) x, add_mem (by omega) x, List.mem_cons]
    constructor
    · rintro ((q | ⟨rfl, q⟩) | ⟨q, p⟩)
      · exact .inl q
      · exact .inr ⟨.inl rfl, q⟩
      · exact .inr ⟨.inr q, p⟩
    · rintro (q | ⟨rfl | q, p⟩)
      · exact .inl (.inl q)
      · exact .inl (.inr ⟨rfl, p⟩)
      · exact .inr ⟨q, p⟩
def ins (v : Vl) : List Vl → List Vl
  | [] => [v]
  | a :: l => if ord a v < 0 then a :: ins v l else v :: a :: l
def srt : List Vl → List Vl
  | [] => []
  | v :: l => ins v (srt l)
theorem ins_perm (v : Vl) : ∀ l : List Vl, (ins v l).Perm (v :: l)
  | [] => List.Perm.refl _
  | a :: l => by
    unfold ins
    split
    · exact ((ins_perm v l).cons a).trans (List.Perm.swap v a l)
    · exact List.Perm.refl _
theorem srt_perm : ∀ l : List Vl, (srt l).Perm l
  | [] => List.Perm.refl _
  | v :: l => (ins_perm v _).trans ((srt_perm l).cons v)
theorem ins_le {v : Vl} : ∀ {l : List Vl}, l.Pairwise (fun a b => ord a b ≤ 0) → (ins v l).Pairwise (fun a b => ord a b ≤ 0)
  | [], _ => by simp [ins]
  | a :: l, h => by
    rw [List.pairwise_cons] at h
    unfold ins
    split
    · rename_i q
      refine List.pairwise_cons.2 ⟨fun x hx => ?_, ins_le h.2⟩
      rcases List.mem_cons.1 ((ins_perm v l).mem_iff.1 hx) with p | p
      · rw [p]; omega
      · exact h.1 x p
    · rename_i q
      have hva : ord v a ≤ 0 := by have := ord_neg v a; omega
      refine List.pairwise_cons.2 ⟨fun x hx => ?_, List.pairwise_cons.2 h⟩
      rcases List.mem_cons.1 hx with p | p
      · rw [p]; exact hva
      · exact ord_le_trans hva (h.1 x p)
theorem srt_le : ∀ l : List Vl, (srt l).Pairwise (fun a b => ord a b ≤ 0)
  | [] => List.Pairwise.nil
  | _ :: l => ins_le (srt_le l)
theorem srt_len (l : List Vl) : (srt l).length = l.length := (srt_perm l).length_eq
theorem srt_mem (l : List Vl) (x : Vl) : x ∈ srt l ↔ x ∈ l := (srt_perm l).mem_iff
theorem srt_up {l : List Vl} (hm : ∀ x ∈ l, May x) (hn : l.Nodup) : Up (srt l) :=
  le_up (fun x hx => hm x ((srt_mem l x).1 hx)) ((srt_perm l).nodup_iff.2 hn) (srt_le l)
theorem srt_ris {l : List Vl} (hm : ∀ x ∈ l, May x) (hn : l.Nodup) : Ris (srt l) := ⟨fun x hx => hm x ((srt_mem l x).1 hx), srt_up hm hn⟩
theorem srt_place {l : List Vl} (hm : ∀ x ∈ l, May x) (hn : l.Nodup) {x : Vl} (hx : x ∈ l) : (srt l)[place l x]? = some x := by
  obtain ⟨i, hi⟩ := List.getElem?_of_mem ((srt_mem l x).2 hx)
  have h := up_place (srt_up hm hn) hi
  rw [place_perm (srt_perm l)] at h
  rw [h]
  exact hi
theorem place_lt {l : List Vl} (hm : ∀ x ∈ l, May x) (hn : l.Nodup) {x : Vl} (hx : x ∈ l) : place l x < l.length := by
  have := (List.getElem?_eq_some_iff.1 (srt_place hm hn hx)).1
  rw [srt_len] at this
  exact this
theorem srt_is {l out : List Vl} (hm : ∀ x ∈ l, May x) (hn : l.Nodup) (hl : out.length = l.length) (h : ∀ x ∈ l, out[place l x]? = some x) : out = srt l := by
  refine List.ext_getElem? fun i => ?_
  by_cases hi : i < l.length
  · have hs : (srt l)[i]? = some ((srt l)[i]'(by rw [srt_len]; exact hi)) := List.getElem?_eq_getElem _
    have hx : (srt l)[i]'(by rw [srt_len]; exact hi) ∈ l := (srt_mem l _).1 (List.getElem_mem _)
    have hp := up_place (srt_up hm hn) hs
    rw [place_perm (srt_perm l)] at hp
    have := h _ hx
    rw [hp] at this
    rw [this, hs]
  · rw [List.getElem?_eq_none (by omega), List.getElem?_eq_none (by rw [srt_len]; omega)]
def tos (l : List Vl) : List Int := l.map fun x => (place l x : Int)
theorem tos_len (l : List Vl) : (tos l).length = l.length := by simp [tos]
theorem tos_at {l : List Vl} {i : Nat} {x : Vl} (h : l[i]? = some x) : (tos l)[i]? = some (place l x : Int) := by simp [tos, h]
end Dc
end Go.Proofs.YtaoeipehpakngaaGreatDoor
