/- When a schema may be, column by column, and whether a row fits it; in plain words. No program, no memory. -/
import Derived.Test.YtiokajaadmfohaaScMath
namespace Go.Proofs.Ytiokajaadmfohaa
set_option maxRecDepth 20000
namespace Sc
open Va
instance : Inhabited Col := ⟨⟨⟨#[]⟩, 0, false⟩⟩
/-- A truth of the mind as a truth of the machine. -/
noncomputable def tr (p : Prop) : Bool := @decide p (Classical.propDecidable p)
theorem tr_yes {p : Prop} (h : p) : tr p = true := by unfold tr; exact (@decide_eq_true_iff p (Classical.propDecidable p)).2 h
theorem tr_no {p : Prop} (h : ¬ p) : tr p = false := by unfold tr; exact (@decide_eq_false_iff_not p (Classical.propDecidable p)).2 h
theorem tr_iff {p : Prop} : tr p = true ↔ p := by unfold tr; exact @decide_eq_true_iff p (Classical.propDecidable p)
theorem tr_not {p : Prop} : tr p = false ↔ ¬ p := by unfold tr; exact @decide_eq_false_iff_not p (Classical.propDecidable p)
theorem tr_congr {p q : Prop} (h : p ↔ q) : tr p = tr q := by rw [Bool.eq_iff_iff, tr_iff, tr_iff]; exact h
theorem tr_dec (p : Prop) [Decidable p] : tr p = decide p := by rw [Bool.eq_iff_iff, tr_iff, decide_eq_true_iff]
theorem get_mem {cs : List Col} {i : Nat} (h : i < cs.length) : cs.getD i default ∈ cs := by
  simp [List.getD, List.getElem?_eq_getElem h]
theorem mem_get {cs : List Col} {c : Col} (h : c ∈ cs) : ∃ i, i < cs.length ∧ cs.getD i default = c := by
  obtain ⟨i, hi, e⟩ := List.getElem_of_mem h
  exact ⟨i, hi, by simp [List.getD, List.getElem?_eq_getElem hi, e]⟩
theorem all_get {cs : List Col} {p : Col → Prop} : (∀ c ∈ cs, p c) ↔ ∀ i, i < cs.length → p (cs.getD i default) :=
  ⟨fun h i hi => h _ (get_mem hi), fun h c hc => by obtain ⟨i, hi, rfl⟩ := mem_get hc; exact h i hi⟩

/-! ### The first column of a name -/
theorem find_none : ∀ (cs : List Col) (s : ByteArray) (a : Int), (∀ j, j < cs.length → (cs.getD j default).name ≠ s) → findF cs s a = -1
  | [], _, _, _ => rfl
  | c :: cs, s, a, h => by
    rw [findF, if_neg (by simpa using h 0 (by simp))]
    exact find_none cs s (a + 1) (fun j hj => by simpa using h (j + 1) (by simp; omega))
theorem find_at : ∀ (cs : List Col) (s : ByteArray) (a : Int) (k : Nat), k < cs.length → (∀ j, j < k → (cs.getD j default).name ≠ s) → (cs.getD k default).name = s → findF cs s a = a + k
  | [], _, _, _, h, _, _ => by simp at h
  | c :: cs, s, a, 0, _, _, h => by
    rw [findF, if_pos (by simpa using h)]
    simp
  | c :: cs, s, a, k + 1, hk, hj, h => by
    rw [findF, if_neg (by simpa using hj 0 (by omega)), find_at cs s (a + 1) k (by simpa using hk) (fun j q => by simpa using hj (j + 1) (by omega)) (by simpa using h)]
    omega
theorem find_ge : ∀ (cs : List Col) (s : ByteArray) (a : Int), 0 ≤ a → -1 ≤ findF cs s a ∧ findF cs s a < a + cs.length ∨ findF cs s a = -1
  | [], _, _, _ => .inr rfl
  | c :: cs, s, a, h => by
    rw [findF]
    split
    · left; simp; omega
    · have := find_ge cs s (a + 1) (by omega)
      simp only [List.length_cons]
      omega
theorem find_lo (cs : List Col) (s : ByteArray) : -1 ≤ findF cs s 0 ∧ findF cs s 0 ≤ cs.length := by
  have := find_ge cs s 0 (by omega)
  omega

/-! ### Columns that may be -/
/-- A sign of a name. -/
def sgn (x : Int) : Prop := (97 ≤ x ∧ x ≤ 122) ∨ (48 ≤ x ∧ x ≤ 57) ∨ x = 95
/-- May this column be, its name aside from the others'? -/
def colOk (c : Col) : Prop := nameOk c.name ∧ 1 ≤ c.kind ∧ c.kind ≤ 3
/-- May these columns be? -/
def MayC (cs : List Col) : Prop := 1 ≤ cs.length ∧ cs.length ≤ 8 ∧ (∀ c ∈ cs, nameOk c.name ∧ 1 ≤ c.kind ∧ c.kind ≤ 3) ∧ (cs.map Col.name).Nodup
theorem nodup_names (cs : List Col) : (cs.map Col.name).Nodup ↔ ∀ i, i < cs.length → ∀ k, k < i → (cs.getD k default).name ≠ (cs.getD i default).name := by
  rw [List.Nodup, List.pairwise_iff_getElem]
  simp only [List.length_map, List.getElem_map]
  constructor
  · intro h i hi k hk
    have := h k i (by omega) hi hk
    simpa [List.getD, List.getElem?_eq_getElem hi, List.getElem?_eq_getElem (show k < cs.length by omega)] using this
  · intro h k i hk hi hki
    have := h i hi k hki
    simpa [List.getD, List.getElem?_eq_getElem hi, List.getElem?_eq_getElem hk] using this
/-- As the program holds the columns against it. -/
theorem mayC_find (cs : List Col) : MayC cs ↔ 1 ≤ cs.length ∧ cs.length ≤ 8 ∧ ∀ i, i < cs.length → nameOk (cs.getD i default).name ∧ findF cs (cs.getD i default).name 0 = i ∧ 1 ≤ (cs.getD i default).kind ∧ (cs.getD i default).kind ≤ 3 := by
  unfold MayC
  rw [all_get, nodup_names]
  constructor
  · rintro ⟨a, b, h, n⟩
    exact ⟨a, b, fun i hi => ⟨(h i hi).1, by have := find_at cs _ 0 i hi (n i hi) rfl; omega, (h i hi).2⟩⟩
  · rintro ⟨a, b, h⟩
    refine ⟨a, b, fun i hi => ⟨(h i hi).1, (h i hi).2.2⟩, ?_⟩
    -- the least column of that name stands ahead
    intro i
    induction i using Nat.strongRecOn with
    | ind i ih =>
      intro hi k hk e
      by_cases q : ∀ j, j < k → (cs.getD j default).name ≠ (cs.getD k default).name
      · have := find_at cs (cs.getD k default).name 0 k (by omega) q rfl
        rw [e, (h i hi).2.1] at this
        omega
      · exact q fun j hj => ih k hk (by omega) j hj
/-- As the reference does. -/
theorem mayC_pair (cs : List Col) : MayC cs ↔ 1 ≤ cs.length ∧ cs.length ≤ 8 ∧ ∀ i, i < cs.length → colOk (cs.getD i default) ∧ ∀ k, k < i → (cs.getD k default).name ≠ (cs.getD i default).name := by
  unfold MayC
  rw [all_get, nodup_names]
  exact ⟨fun ⟨a, b, h, n⟩ => ⟨a, b, fun i hi => ⟨h i hi, n i hi⟩⟩, fun ⟨a, b, h⟩ => ⟨a, b, fun i hi => (h i hi).1, fun i hi => (h i hi).2⟩⟩
/-- Key, Cmp and Del. -/
def MayK (s : Sch) : Prop := (s.key = -1 ∧ s.cmp = -1 ∧ s.del = -1) ∨ (s.key ≠ -1 ∧ whole s s.key ∧ whole1 s s.cmp 1 ∧ (s.del = -1 ∨ whole1 s s.del 3))
theorem mayS_iff (s : Sch) : MayS s ↔ MayC s.cols ∧ MayK s ∧ -1 ≤ s.sort ∧ s.sort < s.cols.length := by
  unfold MayS MayC MayK
  constructor
  · rintro ⟨a, b, c, d, e, f, g⟩; exact ⟨⟨a, b, e, f⟩, g, c, d⟩
  · rintro ⟨⟨a, b, e, f⟩, g, c, d⟩; exact ⟨a, b, c, d, e, f, g⟩
theorem whole_get (s : Sch) (i : Int) : whole s i ↔ 0 ≤ i ∧ i < s.cols.length ∧ (s.cols.getD i.toNat default).nul = false := by
  unfold whole
  constructor
  · rintro ⟨h, c, hc, hn⟩
    have hlt := (List.getElem?_eq_some_iff.1 hc).1
    exact ⟨h, by omega, by rw [List.getD, hc]; exact hn⟩
  · rintro ⟨h, hl, hn⟩
    have hlt : i.toNat < s.cols.length := by omega
    exact ⟨h, _, List.getElem?_eq_getElem hlt, by simpa [List.getD, List.getElem?_eq_getElem hlt] using hn⟩
theorem whole1_get (s : Sch) (i k : Int) : whole1 s i k ↔ whole s i ∧ (s.cols.getD i.toNat default).kind = k := by
  rw [whole_get]
  unfold whole1
  constructor
  · rintro ⟨h, c, hc, hn, hk⟩
    have hlt := (List.getElem?_eq_some_iff.1 hc).1
    exact ⟨⟨h, by omega, by rw [List.getD, hc]; exact hn⟩, by rw [List.getD, hc]; exact hk⟩
  · rintro ⟨⟨h, hl, hn⟩, hk⟩
    have hlt : i.toNat < s.cols.length := by omega
    exact ⟨h, _, List.getElem?_eq_getElem hlt, by simpa [List.getD, List.getElem?_eq_getElem hlt] using hn, by simpa [List.getD, List.getElem?_eq_getElem hlt] using hk⟩

/-! ### Rows that fit -/
theorem fits_get : ∀ (cs : List Col) (vs : List Vl), fits cs vs ↔ vs.length = cs.length ∧ ∀ i, i < cs.length → fit1 (cs.getD i default) (vs.getD i ⟨0, 0, ⟨#[]⟩, false⟩)
  | [], [] => by simp [fits]
  | [], _ :: _ => by simp [fits]
  | _ :: _, [] => by simp [fits]
  | c :: cs, v :: vs => by
    rw [fits, fits_get cs vs]
    constructor
    · rintro ⟨h, hl, hi⟩
      refine ⟨by simp [hl], fun i q => ?_⟩
      cases i with
      | zero => simpa using h
      | succ i => simpa using hi i (by simpa using q)
    · rintro ⟨hl, hi⟩
      exact ⟨by simpa using hi 0 (by simp), by simpa using hl, fun i q => by simpa using hi (i + 1) (by simpa using q)⟩
/-- Does a row fit a schema? -/
def FitS (s : Sch) (vs : List Vl) : Prop := MayS s ∧ fits s.cols vs
/-- What is not the kind of nothing stands in a column only if it is the column's. -/
theorem fit1_iff (c : Col) (v : Vl) (h : Ok v) : fit1 c v ↔ ¬ (v.kind ≠ c.kind ∧ ¬ (c.nul = true ∧ v.kind = 0)) := by
  unfold fit1
  constructor
  · rintro ⟨_, q | q⟩ ⟨a, b⟩
    · exact a q
    · exact b ⟨q.2, q.1⟩
  · intro q
    by_cases a : v.kind = c.kind
    · exact ⟨h, .inl a⟩
    · by_cases b : c.nul = true ∧ v.kind = 0
      · exact ⟨h, .inr ⟨b.2, b.1⟩⟩
      · exact absurd ⟨a, b⟩ q
end Sc
end Go.Proofs.Ytiokajaadmfohaa
