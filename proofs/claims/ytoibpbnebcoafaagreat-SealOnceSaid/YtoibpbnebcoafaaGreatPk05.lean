/- Schemas and the bytes of rows in plain words. No program, no memory. When a schema may be, column by column, and whether a row fits it; in plain words. No program, no memory. -/
import Derived.Test.YtoibpbnebcoafaaGreatPk04
namespace Go.Proofs.YtoibpbnebcoafaaGreat
set_option maxRecDepth 20000
namespace Sc
open Va
/-- A column. -/
structure Col where
  name : ByteArray
  kind : Int
  nul : Bool
/-- A schema. -/
structure Sch where
  cols : List Col
  key : Int
  cmp : Int
  del : Int
  sort : Int
/-- A value that may be, of the machine's numbers. -/
def Ok (v : Vl) : Prop := May v ∧ -9223372036854775808 ≤ v.i ∧ v.i ≤ 9223372036854775807
theorem ok_null : Ok null := ⟨may_null, by simp [null], by simp [null]⟩
/-- Does a value stand in this column? -/
def fit1 (c : Col) (v : Vl) : Prop := Ok v ∧ (v.kind = c.kind ∨ (v.kind = 0 ∧ c.nul = true))
/-- Does a row fit these columns? -/
def fits : List Col → List Vl → Prop
  | [], [] => True
  | c :: cs, v :: vs => fit1 c v ∧ fits cs vs
  | _, _ => False
/-- A value's bytes in its column. -/
def one (c : Col) (v : Vl) : List Int := if c.nul = true then (if v.kind = 0 then [0] else 1 :: Va.put v) else Va.put v
/-- A row's bytes. -/
def enc : List Col → List Vl → List Int
  | c :: cs, v :: vs => one c v ++ enc cs vs
  | _, _ => []
/-- The value that bytes begin with in this column, how many bytes it takes, and the error. -/
def rd1 (c : Col) (b : List Int) : Vl × Int × Int :=
  if c.nul = true then
    match b with
    | [] => (null, 0, 6)
    | x :: r => if 1 < x then (null, 0, 7) else if x = 0 then (null, 1, 0) else if (Va.get r c.kind).2.2 = 0 then ((Va.get r c.kind).1, (Va.get r c.kind).2.1 + 1, 0) else (null, 0, (Va.get r c.kind).2.2)
  else Va.get b c.kind
/-- An answer with values ahead of it. -/
def pre (l : List Vl) (p : List Vl × Int) : List Vl × Int := if p.2 = 0 then (l ++ p.1, 0) else ([], p.2)
/-- The row that bytes are, and the error. -/
def dec : List Col → List Int → List Vl × Int
  | [], b => if b = [] then ([], 0) else ([], 7)
  | c :: cs, b => if (rd1 c b).2.2 = 0 then pre [(rd1 c b).1] (dec cs (b.drop (rd1 c b).2.1.toNat)) else ([], (rd1 c b).2.2)

theorem pre_pre (l m : List Vl) (p : List Vl × Int) : pre l (pre m p) = pre (l ++ m) p := by
  unfold pre
  by_cases h : p.2 = 0
  · simp [h]
  · simp [h]
theorem pre_nil (p : List Vl × Int) (h : p.2 ≠ 0 → p.1 = []) : pre [] p = p := by
  unfold pre
  by_cases q : p.2 = 0
  · rw [if_pos q, List.nil_append]
    exact Prod.ext rfl q.symm
  · rw [if_neg q]
    exact Prod.ext (h q).symm rfl
theorem dec_err (cs : List Col) (b : List Int) : (dec cs b).2 ≠ 0 → (dec cs b).1 = [] := by
  cases cs with
  | nil =>
    unfold dec
    split <;> simp
  | cons c cs =>
    unfold dec
    split
    · unfold pre
      split <;> simp
    · simp
/-- The first columns are read, and then the rest. -/
theorem dec_step (cs : List Col) (c : Col) (b : List Int) (l : List Vl) (h : (rd1 c b).2.2 = 0) : pre l (dec (c :: cs) b) = pre (l ++ [(rd1 c b).1]) (dec cs (b.drop (rd1 c b).2.1.toNat)) := by
  rw [dec, if_pos h, pre_pre]
theorem dec_stop (cs : List Col) (c : Col) (b : List Int) (l : List Vl) (h : (rd1 c b).2.2 ≠ 0) : pre l (dec (c :: cs) b) = ([], (rd1 c b).2.2) := by
  rw [dec, if_neg h]
  unfold pre
  rw [if_neg h]

theorem kind_pos {c : Col} {v : Vl} (h : fit1 c v) (hz : v.kind ≠ 0) : v.kind = c.kind := by
  rcases h.2 with q | q
  · exact q
  · exact absurd q.1 hz
theorem may_zero {v : Vl} (h : May v) (hz : v.kind = 0) : v = null := by
  obtain ⟨k, i, s, b⟩ := v
  unfold May at h
  simp only [] at h hz
  subst hz
  rcases h with ⟨_, rfl, rfl, rfl⟩ | ⟨q, _⟩ | ⟨q, _⟩ | ⟨q, _⟩
  · rfl
  all_goals omega
/-- What stands in a column is read again, whatever stands behind. -/
theorem rd1_one {c : Col} {v : Vl} (h : fit1 c v) (more : List Int) : rd1 c (one c v ++ more) = (v, ((one c v).length : Int), 0) := by
  unfold rd1 one
  by_cases hn : c.nul = true
  · rw [if_pos hn, if_pos hn]
    by_cases hz : v.kind = 0
    · rw [if_pos hz]
      rw [may_zero h.1.1 hz]
      simp
    · rw [if_neg hz]
      have hk := kind_pos h hz
      have g := get_put h.1.1 h.1.2.1 h.1.2.2 more
      rw [hk] at g
      simp only [List.cons_append]
      rw [g]
      simp
  · rw [if_neg hn, if_neg hn]
    have hk : v.kind = c.kind := by
      rcases h.2 with q | q
      · exact q
      · exact absurd q.2 hn
    have g := get_put h.1.1 h.1.2.1 h.1.2.2 more
    rw [hk] at g
    exact g
/-- What was encoded is decoded; bytes behind it make it none. -/
theorem dec_enc : ∀ (cs : List Col) (vs : List Vl) (more : List Int), (∀ c ∈ cs, 1 ≤ c.kind) → fits cs vs → dec cs (enc cs vs ++ more) = if more = [] then (vs, 0) else ([], 7)
  | [], [], more, _, _ => by
    unfold dec enc
    simp
  | [], _ :: _, _, _, h => h.elim
  | _ :: _, [], _, _, h => h.elim
  | c :: cs, v :: vs, more, hk, h => by
    have g := rd1_one h.1 (enc cs vs ++ more)
    rw [enc, List.append_assoc, dec, g, if_pos rfl]
    simp only [Int.toNat_natCast]
    rw [List.drop_left, dec_enc cs vs more (fun c hc => hk c (by simp [hc])) h.2]
    unfold pre
    by_cases hm : more = []
    · simp [hm]
    · simp [hm]
/-- What is read in a column fits it, and would be written as the same bytes. -/
theorem rd1_only {c : Col} (hc : 1 ≤ c.kind) {b : List Int} (hb : Nm.Byt b) (h : (rd1 c b).2.2 = 0) :
    ∃ (v : Vl) (j : Nat), rd1 c b = (v, (j : Int), 0) ∧ fit1 c v ∧ j ≤ b.length ∧ one c v = b.take j := by
  unfold rd1 at h ⊢
  by_cases hn : c.nul = true
  · rw [if_pos hn] at h ⊢
    match b, hb, h with
    | [], _, h => cases h
    | x :: r, hb, h =>
      simp only [] at h ⊢
      have hx := hb x (by simp)
      by_cases h1 : 1 < x
      · rw [if_pos h1] at h
        cases h
      rw [if_neg h1] at h ⊢
      by_cases h0 : x = 0
      · rw [if_pos h0]
        exact ⟨null, 1, by simp, ⟨ok_null, .inr ⟨rfl, hn⟩⟩, by simp, by unfold one; rw [if_pos hn]; simp [null, h0]⟩
      rw [if_neg h0] at h ⊢
      have hx1 : x = 1 := by omega
      have hr : Nm.Byt r := fun y hy => hb y (List.mem_cons_of_mem _ hy)
      by_cases hg : (Va.get r c.kind).2.2 = 0
      · rw [if_pos hg]
        obtain ⟨y, j, e, hy, hk, hj, hp, b1, b2⟩ := get_only hr c.kind hg
        rw [e]
        have hz : ¬ y.kind = 0 := by omega
        exact ⟨y, j + 1, by simp, ⟨⟨hy, b1, b2⟩, .inl hk⟩, by simp; omega, by unfold one; rw [if_pos hn, if_neg hz, hp, hx1]; simp⟩
      · rw [if_neg hg] at h
        exact absurd h hg
  · rw [if_neg hn] at h ⊢
    obtain ⟨y, j, e, hy, hk, hj, hp, b1, b2⟩ := get_only hb c.kind h
    exact ⟨y, j, e, ⟨⟨hy, b1, b2⟩, .inl hk⟩, hj, by unfold one; rw [if_neg hn]; exact hp⟩
theorem byt_drop' {b : List Int} (h : Nm.Byt b) (k : Nat) : Nm.Byt (b.drop k) := fun x hx => h x (List.mem_of_mem_drop hx)
/-- What is decoded fits, and would be encoded as the same bytes. -/
theorem dec_only : ∀ (cs : List Col) (b : List Int), (∀ c ∈ cs, 1 ≤ c.kind) → Nm.Byt b → (dec cs b).2 = 0 → ∃ vs, dec cs b = (vs, 0) ∧ fits cs vs ∧ enc cs vs = b
  | [], b, _, _, h => by
    unfold dec at h ⊢
    by_cases q : b = []
    · rw [if_pos q]
      exact ⟨[], rfl, trivial, by rw [q]; rfl⟩
    · rw [if_neg q] at h
      cases h
  | c :: cs, b, hk, hb, h => by
    by_cases q : (rd1 c b).2.2 = 0
    · obtain ⟨v, j, e, hf, hj, hp⟩ := rd1_only (hk c (by simp)) hb q
      rw [dec, e, if_pos rfl] at h ⊢
      simp only [Int.toNat_natCast] at h ⊢
      have h0 : (dec cs (b.drop j)).2 = 0 := by
        unfold pre at h
        by_cases z : (dec cs (b.drop j)).2 = 0
        · exact z
        · rw [if_neg z] at h
          exact absurd h z
      obtain ⟨vs, e2, hf2, hp2⟩ := dec_only cs (b.drop j) (fun c hc => hk c (by simp [hc])) (byt_drop' hb j) h0
      rw [e2]
      exact ⟨v :: vs, by simp [pre], ⟨hf, hf2⟩, by rw [enc, hp, hp2, List.take_append_drop]⟩
    · rw [dec, if_neg q] at h
      exact absurd h q
/-- A beginning of a row's bytes is no row's. -/
theorem dec_cut {cs : List Col} (hk : ∀ c ∈ cs, 1 ≤ c.kind) {b : List Int} (hb : Nm.Byt b) (h : (dec cs b).2 = 0) {n : Nat} (hn : n < b.length) : (dec cs (b.take n)).2 ≠ 0 := fun q => by
  obtain ⟨vs, e, hf, hp⟩ := dec_only cs (b.take n) hk (fun x hx => hb x (List.mem_of_mem_take hx)) q
  have g := dec_enc cs vs (b.drop n) hk hf
  rw [hp, List.take_append_drop] at g
  have hd : ¬ b.drop n = [] := fun z => by
    have := congrArg List.length z
    simp at this
    omega
  rw [if_neg hd] at g
  rw [g] at h
  cases h
/-- Two rows that fit have the same bytes only if they are the same. -/
theorem enc_inj {cs : List Col} (hk : ∀ c ∈ cs, 1 ≤ c.kind) {u v : List Vl} (hu : fits cs u) (hv : fits cs v) (h : enc cs u = enc cs v) : u = v := by
  have g := dec_enc cs u [] hk hu
  have k := dec_enc cs v [] hk hv
  rw [h, k] at g
  simp at g
  exact g.symm
/-- Neither's bytes begin with the other's. -/
theorem enc_apart {cs : List Col} (hk : ∀ c ∈ cs, 1 ≤ c.kind) {u v : List Vl} (hu : fits cs u) (hv : fits cs v) (hl : (enc cs u).length < (enc cs v).length) : enc cs u ≠ (enc cs v).take (enc cs u).length := fun h => by
  have g := dec_enc cs u ((enc cs v).drop (enc cs u).length) hk hu
  have k := dec_enc cs v [] hk hv
  have e : enc cs u ++ (enc cs v).drop (enc cs u).length = enc cs v := by
    have := List.take_append_drop (enc cs u).length (enc cs v)
    rw [← h] at this
    exact this
  rw [e] at g
  rw [List.append_nil, if_pos rfl] at k
  rw [k] at g
  have hd : ¬ (enc cs v).drop (enc cs u).length = [] := fun z => by
    have := congrArg List.length z
    simp at this
    omega
  rw [if_neg hd] at g
  have := congrArg Prod.snd g
  simp at this
theorem fits_len : ∀ {cs : List Col} {vs : List Vl}, fits cs vs → vs.length = cs.length
  | [], [], _ => rfl
  | [], _ :: _, h => h.elim
  | _ :: _, [], h => h.elim
  | _ :: _, _ :: _, h => by simp [fits_len h.2]
theorem one_len {c : Col} {v : Vl} (h : fit1 c v) : (one c v).length ≤ 75 := by
  have := put_len h.1.1
  unfold one
  split
  · split
    · simp
    · simp; omega
  · omega
theorem enc_len : ∀ {cs : List Col} {vs : List Vl}, fits cs vs → (enc cs vs).length ≤ 75 * cs.length
  | [], [], _ => by simp [enc]
  | [], _ :: _, h => h.elim
  | _ :: _, [], h => h.elim
  | c :: cs, v :: vs, h => by
    have h1 := one_len h.1
    have h2 := enc_len h.2
    rw [enc, List.length_append, List.length_cons]
    omega
theorem one_byt {c : Col} {v : Vl} (h : fit1 c v) : Nm.Byt (one c v) := by
  have hp : Nm.Byt (Va.put v) := put_byt h.1.1 h.1.2.1 h.1.2.2
  unfold one
  split
  · split
    · intro x hx; simp at hx; omega
    · intro x hx
      rcases List.mem_cons.1 hx with q | q
      · omega
      · exact hp x q
  · exact hp
theorem enc_byt : ∀ {cs : List Col} {vs : List Vl}, fits cs vs → Nm.Byt (enc cs vs)
  | [], [], _ => by intro x hx; simp [enc] at hx
  | [], _ :: _, h => h.elim
  | _ :: _, [], h => h.elim
  | c :: cs, v :: vs, h => by
    rw [enc]
    exact Lw.byt_app (one_byt h.1) (enc_byt h.2)
/-- Encoding column by column: the first k columns' bytes, and the next one's. -/
theorem enc_take : ∀ (cs : List Col) (vs : List Vl) (k : Nat) (c : Col) (v : Vl), cs[k]? = some c → vs[k]? = some v → enc (cs.take (k + 1)) (vs.take (k + 1)) = enc (cs.take k) (vs.take k) ++ one c v
  | [], _, k, _, _, h, _ => by simp at h
  | _ :: _, [], k, _, _, _, h => by simp at h
  | c' :: cs, v' :: vs, 0, c, v, h1, h2 => by
    simp at h1 h2
    subst h1 h2
    simp [enc]
  | c' :: cs, v' :: vs, k + 1, c, v, h1, h2 => by
    simp at h1 h2
    rw [List.take_succ_cons, List.take_succ_cons, enc, enc_take cs vs k c v h1 h2, List.take_succ_cons, List.take_succ_cons, enc, List.append_assoc]
/-- May a column's name be? -/
def nameOk (s : ByteArray) : Prop := 1 ≤ s.size ∧ s.size ≤ 16 ∧ ∀ x ∈ byts s, (97 ≤ x ∧ x ≤ 122) ∨ (48 ≤ x ∧ x ≤ 57) ∨ x = 95
/-- Is this the number of a column whose values may not be nothing? -/
def whole (s : Sch) (i : Int) : Prop := 0 ≤ i ∧ ∃ c, s.cols[i.toNat]? = some c ∧ c.nul = false
def whole1 (s : Sch) (i : Int) (k : Int) : Prop := 0 ≤ i ∧ ∃ c, s.cols[i.toNat]? = some c ∧ c.nul = false ∧ c.kind = k
/-- May this schema be? -/
def MayS (s : Sch) : Prop :=
  1 ≤ s.cols.length ∧ s.cols.length ≤ 8 ∧ -1 ≤ s.sort ∧ s.sort < s.cols.length ∧ (∀ c ∈ s.cols, nameOk c.name ∧ 1 ≤ c.kind ∧ c.kind ≤ 3) ∧ (s.cols.map Col.name).Nodup
    ∧ ((s.key = -1 ∧ s.cmp = -1 ∧ s.del = -1) ∨ (s.key ≠ -1 ∧ whole s s.key ∧ whole1 s s.cmp 1 ∧ (s.del = -1 ∨ whole1 s s.del 3)))
theorem mayS_pos {s : Sch} (h : MayS s) : ∀ c ∈ s.cols, 1 ≤ c.kind := fun c hc => (h.2.2.2.2.1 c hc).2.1
/-- The number of the first column of this name. -/
def findF : List Col → ByteArray → Int → Int
  | [], _, _ => -1
  | c :: cs, s, i => if c.name = s then i else findF cs s (i + 1)
def find (s : Sch) (name : ByteArray) : Int := findF s.cols name 0
end Sc
end Go.Proofs.YtoibpbnebcoafaaGreat
namespace Go.Proofs.YtoibpbnebcoafaaGreat
set_option maxRecDepth 20000
namespace Sc
open Va
instance : Inhabited Col := ⟨⟨⟨#[]⟩, 0, false⟩⟩
/-- A truth of the mind as a truth of the machine. -/
noncomputable def tr (p : Prop) : Bool := @decide p (Classical.propDecidable p)
theorem tr_yes {p : Prop} (h : p) : tr p = true := by unfold tr; exact (@decide_eq_true_iff p (Classical.propDecidable p)).2 h
theorem tr_no {p : Prop} (h : ¬ p) : tr p = false := by unfold tr; exact (@decide_eq_false_iff_not p (Classical.propDecidable p)).2 h
theorem tr_iff {p : Prop} : tr p = true ↔ p := by unfold tr; exact @decide_eq_true_iff p (Classical.propDecidable p)
theorem tr_not {p : Prop} : tr p = false ↔ ¬ p := by unfold tr; exact @decide_eq_false_iff_not p (Classical.propDecidable p)
theorem tr_congr {p q : Prop} (h : p ↔ q) : tr p = tr q := by rw [Bool.eq_iff_iff, tr_iff, tr_iff]; exact h
theorem tr_dec (p : Prop) [Decidable p] : tr p = decide p := by rw [Bool.eq_iff_iff, tr_iff, decide_eq_true_iff]
theorem get_mem {cs : List Col} {i : Nat} (h : i < cs.length) : cs.getD i default ∈ cs := by
  simp [List.getD, List.getElem?_eq_getElem h]
theorem mem_get {cs : List Col} {c : Col} (h : c ∈ cs) : ∃ i, i < cs.length ∧ cs.getD i default = c := by
  obtain ⟨i, hi, e⟩ := List.getElem_of_mem h
  exact ⟨i, hi, by simp [List.getD, List.getElem?_eq_getElem hi, e]⟩
theorem all_get {cs : List Col} {p : Col → Prop} : (∀ c ∈ cs, p c) ↔ ∀ i, i < cs.length → p (cs.getD i default) :=
  ⟨fun h i hi => h _ (get_mem hi), fun h c hc => by obtain ⟨i, hi, rfl⟩ := mem_get hc; exact h i hi⟩

/-! ### The first column of a name -/
theorem find_none : ∀ (cs : List Col) (s : ByteArray) (a : Int), (∀ j, j < cs.length → (cs.getD j default).name ≠ s) → findF cs s a = -1
  | [], _, _, _ => rfl
  | c :: cs, s, a, h => by
    rw [findF, if_neg (by simpa using h 0 (by simp))]
    exact find_none cs s (a + 1) (fun j hj => by simpa using h (j + 1) (by simp; omega))
theorem find_at : ∀ (cs : List Col) (s : ByteArray) (a : Int) (k : Nat), k < cs.length → (∀ j, j < k → (cs.getD j default).name ≠ s) → (cs.getD k default).name = s → findF cs s a = a + k
  | [], _, _, _, h, _, _ => by simp at h
  | c :: cs, s, a, 0, _, _, h => by
    rw [findF, if_pos (by simpa using h)]
    simp
  | c :: cs, s, a, k + 1, hk, hj, h => by
    rw [findF, if_neg (by simpa using hj 0 (by omega)), find_at cs s (a + 1) k (by simpa using hk) (fun j q => by simpa using hj (j + 1) (by omega)) (by simpa using h)]
    omega
theorem find_ge : ∀ (cs : List Col) (s : ByteArray) (a : Int), 0 ≤ a → -1 ≤ findF cs s a ∧ findF cs s a < a + cs.length ∨ findF cs s a = -1
  | [], _, _, _ => .inr rfl
  | c :: cs, s, a, h => by
    rw [findF]
    split
    · left; simp; omega
    · have := find_ge cs s (a + 1) (by omega)
      simp only [List.length_cons]
      omega
theorem find_lo (cs : List Col) (s : ByteArray) : -1 ≤ findF cs s 0 ∧ findF cs s 0 ≤ cs.length := by
  have := find_ge cs s 0 (by omega)
  omega

/-! ### Columns that may be -/
/-- A sign of a name. -/
def sgn (x : Int) : Prop := (97 ≤ x ∧ x ≤ 122) ∨ (48 ≤ x ∧ x ≤ 57) ∨ x = 95
/-- May this column be, its name aside from the others'? -/
def colOk (c : Col) : Prop := nameOk c.name ∧ 1 ≤ c.kind ∧ c.kind ≤ 3
/-- May these columns be? -/
def MayC (cs : List Col) : Prop := 1 ≤ cs.length ∧ cs.length ≤ 8 ∧ (∀ c ∈ cs, nameOk c.name ∧ 1 ≤ c.kind ∧ c.kind ≤ 3) ∧ (cs.map Col.name).Nodup
theorem nodup_names (cs : List Col) : (cs.map Col.name).Nodup ↔ ∀ i, i < cs.length → ∀ k, k < i → (cs.getD k default).name ≠ (cs.getD i default).name := by
  rw [List.Nodup, List.pairwise_iff_getElem]
  simp only [List.length_map, List.getElem_map]
  constructor
  · intro h i hi k hk
    have := h k i (by omega) hi hk
    simpa [List.getD, List.getElem?_eq_getElem hi, List.getElem?_eq_getElem (show k < cs.length by omega)] using this
  · intro h k i hk hi hki
    have := h i hi k hki
    simpa [List.getD, List.getElem?_eq_getElem hi, List.getElem?_eq_getElem hk] using this
/-- As the program holds the columns against it. -/
theorem mayC_find (cs : List Col) : MayC cs ↔ 1 ≤ cs.length ∧ cs.length ≤ 8 ∧ ∀ i, i < cs.length → nameOk (cs.getD i default).name ∧ findF cs (cs.getD i default).name 0 = i ∧ 1 ≤ (cs.getD i default).kind ∧ (cs.getD i default).kind ≤ 3 := by
  unfold MayC
  rw [all_get, nodup_names]
  constructor
  · rintro ⟨a, b, h, n⟩
    exact ⟨a, b, fun i hi => ⟨(h i hi).1, by have := find_at cs _ 0 i hi (n i hi) rfl; omega, (h i hi).2⟩⟩
  · rintro ⟨a, b, h⟩
    refine ⟨a, b, fun i hi => ⟨(h i hi).1, (h i hi).2.2⟩, ?_⟩
    -- the least column of that name stands ahead
    intro i
    induction i using Nat.strongRecOn with
    | ind i ih =>
      intro hi k hk e
      by_cases q : ∀ j, j < k → (cs.getD j default).name ≠ (cs.getD k default).name
      · have := find_at cs (cs.getD k default).name 0 k (by omega) q rfl
        rw [e, (h i hi).2.1] at this
        omega
      · exact q fun j hj => ih k hk (by omega) j hj
/-- As the reference does. -/
theorem mayC_pair (cs : List Col) : MayC cs ↔ 1 ≤ cs.length ∧ cs.length ≤ 8 ∧ ∀ i, i < cs.length → colOk (cs.getD i default) ∧ ∀ k, k < i → (cs.getD k default).name ≠ (cs.getD i default).name := by
  unfold MayC
  rw [all_get, nodup_names]
  exact ⟨fun ⟨a, b, h, n⟩ => ⟨a, b, fun i hi => ⟨h i hi, n i hi⟩⟩, fun ⟨a, b, h⟩ => ⟨a, b, fun i hi => (h i hi).1, fun i hi => (h i hi).2⟩⟩
/-- Key, Cmp and Del. -/
def MayK (s : Sch) : Prop := (s.key = -1 ∧ s.cmp = -1 ∧ s.del = -1) ∨ (s.key ≠ -1 ∧ whole s s.key ∧ whole1 s s.cmp 1 ∧ (s.del = -1 ∨ whole1 s s.del 3))
theorem mayS_iff (s : Sch) : MayS s ↔ MayC s.cols ∧ MayK s ∧ -1 ≤ s.sort ∧ s.sort < s.cols.length := by
  unfold MayS MayC MayK
  constructor
  · rintro ⟨a, b, c, d, e, f, g⟩; exact ⟨⟨a, b, e, f⟩, g, c, d⟩
  · rintro ⟨⟨a, b, e, f⟩, g, c, d⟩; exact ⟨a, b, c, d, e, f, g⟩
theorem whole_get (s : Sch) (i : Int) : whole s i ↔ 0 ≤ i ∧ i < s.cols.length ∧ (s.cols.getD i.toNat default).nul = false := by
  unfold whole
  constructor
  · rintro ⟨h, c, hc, hn⟩
    have hlt := (List.getElem?_eq_some_iff.1 hc).1
    exact ⟨h, by omega, by rw [List.getD, hc]; exact hn⟩
  · rintro ⟨h, hl, hn⟩
    have hlt : i.toNat < s.cols.length := by omega
    exact ⟨h, _, List.getElem?_eq_getElem hlt, by simpa [List.getD, List.getElem?_eq_getElem hlt] using hn⟩
theorem whole1_get (s : Sch) (i k : Int) : whole1 s i k ↔ whole s i ∧ (s.cols.getD i.toNat default).kind = k := by
  rw [whole_get]
  unfold whole1
  constructor
  · rintro ⟨h, c, hc, hn, hk⟩
    have hlt := (List.getElem?_eq_some_iff.1 hc).1
    exact ⟨⟨h, by omega, by rw [List.getD, hc]; exact hn⟩, by rw [List.getD, hc]; exact hk⟩
  · rintro ⟨⟨h, hl, hn⟩, hk⟩
    have hlt : i.toNat < s.cols.length := by omega
    exact ⟨h, _, List.getElem?_eq_getElem hlt, by simpa [List.getD, List.getElem?_eq_getElem hlt] using hn, by simpa [List.getD, List.getElem?_eq_getElem hlt] using hk⟩

/-! ### Rows that fit -/
theorem fits_get : ∀ (cs : List Col) (vs : List Vl), fits cs vs ↔ vs.length = cs.length ∧ ∀ i, i < cs.length → fit1 (cs.getD i default) (vs.getD i ⟨0, 0, ⟨#[]⟩, false⟩)
  | [], [] => by simp [fits]
  | [], _ :: _ => by simp [fits]
  | _ :: _, [] => by simp [fits]
  | c :: cs, v :: vs => by
    rw [fits, fits_get cs vs]
    constructor
    · rintro ⟨h, hl, hi⟩
      refine ⟨by simp [hl], fun i q => ?_⟩
      cases i with
      | zero => simpa using h
      | succ i => simpa using hi i (by simpa using q)
    · rintro ⟨hl, hi⟩
      exact ⟨by simpa using hi 0 (by simp), by simpa using hl, fun i q => by simpa using hi (i + 1) (by simpa using q)⟩
/-- Does a row fit a schema? -/
def FitS (s : Sch) (vs : List Vl) : Prop := MayS s ∧ fits s.cols vs
/-- What is not the kind of nothing stands in a column only if it is the column's. -/
theorem fit1_iff (c : Col) (v : Vl) (h : Ok v) : fit1 c v ↔ ¬ (v.kind ≠ c.kind ∧ ¬ (c.nul = true ∧ v.kind = 0)) := by
  unfold fit1
  constructor
  · rintro ⟨_, q | q⟩ ⟨a, b⟩
    · exact a q
    · exact b ⟨q.2, q.1⟩
  · intro q
    by_cases a : v.kind = c.kind
    · exact ⟨h, .inl a⟩
    · by_cases b : c.nul = true ∧ v.kind = 0
      · exact ⟨h, .inr ⟨b.2, b.1⟩⟩
      · exact absurd ⟨a, b⟩ q
end Sc
end Go.Proofs.YtoibpbnebcoafaaGreat
