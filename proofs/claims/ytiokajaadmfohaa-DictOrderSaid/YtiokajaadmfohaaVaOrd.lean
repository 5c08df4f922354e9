/- The order of values in plain words: of two one comes first, or they are the same. No program, no memory. -/
import Derived.WideAt
import Derived.WideShapes
import Derived.Laws.Strings
namespace Go.Proofs.Ytiokajaadmfohaa
set_option maxRecDepth 20000
namespace Va
/-- A value as the document speaks of it. -/
structure Vl where
  kind : Int
  i : Int
  s : ByteArray
  b : Bool
/-- May this value be? -/
def May (v : Vl) : Prop :=
  (v.kind = 0 ∧ v.i = 0 ∧ v.s = ⟨#[]⟩ ∧ v.b = false) ∨ (v.kind = 1 ∧ v.s = ⟨#[]⟩ ∧ v.b = false) ∨ (v.kind = 2 ∧ v.i = 0 ∧ v.s.size ≤ 64 ∧ v.b = false) ∨ (v.kind = 3 ∧ v.i = 0 ∧ v.s = ⟨#[]⟩)
def null : Vl := ⟨0, 0, ⟨#[]⟩, false⟩
theorem may_null : May null := .inl ⟨rfl, rfl, rfl, rfl⟩

theorem less_before : ∀ x y : List UInt8, Op.bytesLess x y = bytesBefore x y
  | [], [] => by simp [Op.bytesLess, bytesBefore]
  | [], _ :: _ => by simp [Op.bytesLess, bytesBefore]
  | _ :: _, [] => by simp [Op.bytesLess, bytesBefore]
  | a :: x, b :: y => by
    rw [Op.bytesLess, bytesBefore, less_before x y]
/-- Three ways of 'comes first', of a test that is an order. -/
def way (x y : Bool) : Int := if x then -1 else if y then 1 else 0
theorem way_neg {x y : Bool} (h : x = true → y = false) : way x y = -way y x := by
  cases x <;> cases y <;> simp_all [way]
theorem way_zero {x y : Bool} : way x y = 0 ↔ x = false ∧ y = false := by
  cases x <;> cases y <;> simp [way]
theorem way_le {x y : Bool} (h : x = true → y = false) : way x y ≤ 0 ↔ y = false := by
  cases x <;> cases y <;> simp_all [way]

def bef (s t : ByteArray) : Bool := Op.bytesLess s.toList t.toList
theorem bef_eq (s t : ByteArray) : bef s t = bytesBefore s.data.toList t.data.toList := by
  unfold bef
  rw [ByteArray.toList_eq, ByteArray.toList_eq, less_before]
theorem bef_irrefl (s : ByteArray) : bef s s = false := by rw [bef_eq]; exact WideAt.bytes_irrefl _
theorem bef_trans {s t u : ByteArray} (h : bef s t = true) (k : bef t u = true) : bef s u = true := by
  rw [bef_eq] at *
  exact WideShapes.bytes_trans _ _ _ h k
theorem bef_total {s t : ByteArray} (h : s ≠ t) : bef s t = true ∨ bef t s = true := by
  rw [bef_eq, bef_eq]
  exact WideAt.bytes_total _ _ fun e => h (WideShapes.bytes_inj e)
theorem bef_asym {s t : ByteArray} (h : bef s t = true) : bef t s = false := by
  cases k : bef t s
  · rfl
  · have := bef_trans h k
    rw [bef_irrefl] at this
    cases this
def cmpI (x y : Int) : Int := way (decide (x < y)) (decide (y < x))
def cmpS (s t : ByteArray) : Int := way (bef s t) (bef t s)
def cmpB (x y : Bool) : Int := way (!x && y) (x && !y)
/-- Which of two comes first. -/
def ord (a b : Vl) : Int :=
  if a.kind < b.kind then -1 else if b.kind < a.kind then 1
  else if a.kind = 1 then cmpI a.i b.i else if a.kind = 2 then cmpS a.s b.s else if a.kind = 3 then cmpB a.b b.b else 0

theorem cmpI_neg (x y : Int) : cmpI x y = -cmpI y x := way_neg fun h => decide_eq_false (by have := of_decide_eq_true h; omega)
theorem cmpS_neg (s t : ByteArray) : cmpS s t = -cmpS t s := way_neg bef_asym
theorem cmpB_neg (x y : Bool) : cmpB x y = -cmpB y x := by cases x <;> cases y <;> rfl
theorem cmpI_zero {x y : Int} : cmpI x y = 0 ↔ x = y := by
  unfold cmpI
  rw [way_zero, decide_eq_false_iff_not, decide_eq_false_iff_not]
  omega
theorem cmpS_zero {s t : ByteArray} : cmpS s t = 0 ↔ s = t := by
  unfold cmpS
  rw [way_zero]
  refine ⟨fun ⟨h1, h2⟩ => ?_, fun h => by rw [h]; exact ⟨bef_irrefl t, bef_irrefl t⟩⟩
  by_cases e : s = t
  · exact e
  · rcases bef_total e with q | q
    · rw [q] at h1; cases h1
    · rw [q] at h2; cases h2
theorem cmpB_zero {x y : Bool} : cmpB x y = 0 ↔ x = y := by cases x <;> cases y <;> simp [cmpB, way]
theorem cmpI_le {x y : Int} : cmpI x y ≤ 0 ↔ x ≤ y := by
  unfold cmpI
  rw [way_le (fun h => decide_eq_false (by have := of_decide_eq_true h; omega)), decide_eq_false_iff_not]
  omega
theorem cmpS_le {s t : ByteArray} : cmpS s t ≤ 0 ↔ bef t s = false := way_le bef_asym
theorem cmpS_trans {s t u : ByteArray} (h : cmpS s t ≤ 0) (k : cmpS t u ≤ 0) : cmpS s u ≤ 0 := by
  rw [cmpS_le] at *
  by_cases e : t = u
  · subst e; exact h
  by_cases e' : s = t
  · subst e'; exact k
  cases q : bef u s
  · rfl
  · have h1 : bef s t = true := by
      rcases bef_total e' with p | p
      · exact p
      · rw [p] at h; cases h
    have h2 : bef t u = true := by
      rcases bef_total e with p | p
      · exact p
      · rw [p] at k; cases k
    have := bef_trans (bef_trans h1 h2) q
    rw [bef_irrefl] at this
    cases this
theorem cmpB_trans {x y z : Bool} (h : cmpB x y ≤ 0) (k : cmpB y z ≤ 0) : cmpB x z ≤ 0 := by
  revert h k
  cases x <;> cases y <;> cases z <;> simp [cmpB, way]

theorem ord_neg (a b : Vl) : ord a b = -ord b a := by
  unfold ord
  by_cases h1 : a.kind < b.kind
  · rw [if_pos h1, if_neg (by omega), if_pos h1]
  by_cases h2 : b.kind < a.kind
  · rw [if_neg h1, if_pos h2, if_pos h2]; rfl
  have e : a.kind = b.kind := by omega
  rw [if_neg h1, if_neg h2, if_neg h2, if_neg h1, e]
  split
  · exact cmpI_neg _ _
  split
  · exact cmpS_neg _ _
  split
  · exact cmpB_neg _ _
  · rfl
theorem ord_self (a : Vl) : ord a a = 0 := by
  have := ord_neg a a
  omega
/-- Behind the order of kinds. -/
theorem ord_same {a b : Vl} (h : a.kind = b.kind) : ord a b = if a.kind = 1 then cmpI a.i b.i else if a.kind = 2 then cmpS a.s b.s else if a.kind = 3 then cmpB a.b b.b else 0 := by
  unfold ord
  rw [if_neg (by omega), if_neg (by omega)]
theorem way_bd {x y : Bool} : -1 ≤ way x y ∧ way x y ≤ 1 := by cases x <;> cases y <;> simp [way]
theorem ord_bd (a b : Vl) : -1 ≤ ord a b ∧ ord a b ≤ 1 := by
  unfold ord
  split
  · omega
  split
  · omega
  split
  · exact way_bd
  split
  · exact way_bd
  split
  · exact way_bd
  · omega
theorem ord_kind {a b : Vl} (h : ord a b ≤ 0) : a.kind ≤ b.kind := by
  by_cases q : b.kind < a.kind
  · unfold ord at h
    rw [if_neg (by omega), if_pos q] at h
    omega
  · omega
theorem ord_zero_kind {a b : Vl} (h : ord a b = 0) : a.kind = b.kind := by
  have h1 := ord_kind (a := a) (b := b) (by omega)
  have h2 := ord_kind (a := b) (b := a) (by have := ord_neg a b; omega)
  omega
theorem ord_zero {a b : Vl} (ha : May a) (hb : May b) : ord a b = 0 ↔ a = b := by
  refine ⟨fun h => ?_, fun h => by rw [h]; exact ord_self b⟩
  have hk := ord_zero_kind h
  rw [ord_same hk] at h
  obtain ⟨k1, i1, s1, b1⟩ := a
  obtain ⟨k2, i2, s2, b2⟩ := b
  unfold May at ha hb
  simp only [] at ha hb hk h
  subst hk
  rcases ha with ⟨rfl, rfl, rfl, rfl⟩ | ⟨rfl, rfl, rfl⟩ | ⟨rfl, rfl, _, rfl⟩ | ⟨rfl, rfl, rfl⟩ <;> rcases hb with ⟨q, rfl, rfl, rfl⟩ | ⟨q, rfl, rfl⟩ | ⟨q, rfl, _, rfl⟩ | ⟨q, rfl, rfl⟩ <;> first | omega | skip
  · rfl
  · rw [if_pos rfl, cmpI_zero] at h
    rw [h]
  · rw [if_neg (by omega), if_pos rfl, cmpS_zero] at h
    rw [h]
  · rw [if_neg (by omega), if_neg (by omega), if_pos rfl, cmpB_zero] at h
    rw [h]
theorem ord_le_trans {a b c : Vl} (h : ord a b ≤ 0) (k : ord b c ≤ 0) : ord a c ≤ 0 := by
  have h1 := ord_kind h
  have h2 := ord_kind k
  by_cases q : a.kind < c.kind
  · unfold ord
    rw [if_pos q]
    omega
  · have e1 : a.kind = b.kind := by omega
    have e2 : b.kind = c.kind := by omega
    rw [ord_same e1] at h
    rw [ord_same e2, ← e1] at k
    rw [ord_same (e1.trans e2)]
    split
    · rename_i p
      rw [if_pos p, cmpI_le] at h k
      rw [cmpI_le]
      omega
    rename_i p
    rw [if_neg p] at h k
    split
    · rename_i p
      rw [if_pos p] at h k
      exact cmpS_trans h k
    rename_i p
    rw [if_neg p] at h k
    split
    · rename_i p
      rw [if_pos p] at h k
      exact cmpB_trans h k
    · omega
/-- What the law of the order asks of three. -/
theorem ord_three {a b c : Vl} (ha : May a) (hb : May b) (hc : May c) (h : ord a b ≤ 0) (k : ord b c ≤ 0) : ord a c ≤ 0 ∧ (ord a c = 0 ↔ ord a b = 0 ∧ ord b c = 0) := by
  refine ⟨ord_le_trans h k, fun e => ?_, fun ⟨e1, e2⟩ => ?_⟩
  · have hac := (ord_zero ha hc).1 e
    subst hac
    have := ord_neg a b
    exact ⟨by omega, by omega⟩
  · rw [(ord_zero ha hb).1 e1]
    exact e2
theorem null_first {a : Vl} (ha : May a) : ord null a ≤ 0 := by
  rcases ha with ⟨h, _⟩ | ⟨h, _⟩ | ⟨h, _⟩ | ⟨h, _⟩
  · rw [ord_same (by rw [h]; rfl)]
    simp [null]
  all_goals
    unfold ord
    rw [if_pos (show null.kind < a.kind from (show (0 : Int) < a.kind by omega))]
    omega
end Va
end Go.Proofs.Ytiokajaadmfohaa
