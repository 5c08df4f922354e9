/- Sets of numbers as lists that rise, in plain words. No program, no memory. -/
import Derived.Lib.Hide
namespace Go.Proofs.YtgmjafammdkgfaaDoor
set_option maxRecDepth 20000
namespace Bs
/-- A number that may be in a set. -/
def adm (i : Int) : Prop := 0 ≤ i ∧ i < 65536
instance : DecidablePred adm := fun i => inferInstanceAs (Decidable (0 ≤ i ∧ i < 65536))
/-- A list that rises, of numbers that may be in a set. -/
def Ok (X : List Int) : Prop := X.Pairwise (fun a b => a < b) ∧ ∀ x ∈ X, adm x
theorem ok_nil : Ok [] := ⟨List.Pairwise.nil, fun x hx => by simp at hx⟩
theorem ok_tail {a : Int} {X : List Int} (h : Ok (a :: X)) : Ok X := ⟨(List.pairwise_cons.1 h.1).2, fun x hx => h.2 x (by simp [hx])⟩
theorem ok_head {a : Int} {X : List Int} (h : Ok (a :: X)) : ∀ x ∈ X, a < x := (List.pairwise_cons.1 h.1).1
theorem ok_nodup {X : List Int} (h : Ok X) : X.Nodup := List.Pairwise.imp (S := fun a b => a ≠ b) (fun {a b} q e => by omega) h.1
theorem ok_sub {X Y : List Int} (h : Ok Y) (hs : X.Sublist Y) : Ok X := ⟨h.1.sublist hs, fun x hx => h.2 x (hs.subset hx)⟩
theorem ok_ext : ∀ {X Y : List Int}, Ok X → Ok Y → (∀ x, x ∈ X ↔ x ∈ Y) → X = Y
  | [], [], _, _, _ => rfl
  | [], y :: Y, _, _, h => absurd ((h y).2 (by simp)) (by simp)
  | x :: X, [], _, _, h => absurd ((h x).1 (by simp)) (by simp)
  | x :: X, y :: Y, hx, hy, h => by
    have e : x = y := by
      rcases List.mem_cons.1 ((h x).1 (by simp)) with q | q
      · exact q
      · rcases List.mem_cons.1 ((h y).2 (by simp)) with p | p
        · exact p.symm
        · have := ok_head hx y p
          have := ok_head hy x q
          omega
    subst e
    rw [ok_ext (ok_tail hx) (ok_tail hy) fun z => by
      have hz := h z
      rw [List.mem_cons, List.mem_cons] at hz
      constructor
      · intro q
        rcases hz.1 (.inr q) with p | p
        · have := ok_head hx z q; omega
        · exact p
      · intro q
        rcases hz.2 (.inr q) with p | p
        · have := ok_head hy z q; omega
        · exact p]
/-- A number in its place. -/
def ins (i : Int) : List Int → List Int
  | [] => [i]
  | a :: l => if a < i then a :: ins i l else i :: a :: l
def withL (X : List Int) (i : Int) : List Int := if adm i ∧ i ∉ X then ins i X else X
def withoutL (X : List Int) (i : Int) : List Int := X.filter fun x => decide (x ≠ i)
def ofL (l : List Int) : List Int := l.foldl withL []
/-- How many numbers lie below n that may be in a set. -/
def cut (n : Int) : Nat := (min n 65536).toNat
def uptoL (n : Int) : List Int := (List.range (cut n)).map fun (k : Nat) => (k : Int)
def andL (X Y : List Int) : List Int := X.filter fun x => decide (x ∈ Y)
def orL (X Y : List Int) : List Int := Y.foldl withL X
def notL (X : List Int) (n : Int) : List Int := (uptoL n).filter fun x => decide (x ∉ X)
theorem mem_ins (i x : Int) : ∀ X : List Int, x ∈ ins i X ↔ x = i ∨ x ∈ X
  | [] => by simp [ins]
  | a :: X => by
    unfold ins
    split
    · rw [List.mem_cons, mem_ins i x X, List.mem_cons]
      constructor
      · rintro (q | q | q)
        · exact .inr (.inl q)
        · exact .inl q
        · exact .inr (.inr q)
      · rintro (q | q | q)
        · exact .inr (.inl q)
        · exact .inl q
        · exact .inr (.inr q)
    · rw [List.mem_cons]
theorem ins_len (i : Int) : ∀ X : List Int, (ins i X).length = X.length + 1
  | [] => rfl
  | a :: X => by
    unfold ins
    split
    · rw [List.length_cons, ins_len i X, List.length_cons]
    · rw [List.length_cons]
theorem ins_ok {i : Int} (hi : adm i) : ∀ {X : List Int}, Ok X → i ∉ X → Ok (ins i X)
  | [], _, _ => ⟨by simp [ins], fun x hx => by rw [show x = i by simpa [ins] using hx]; exact hi⟩
  | a :: X, h, hn => by
    have hm : ∀ x ∈ ins i (a :: X), adm x := fun x hx => by
      rcases (mem_ins i x _).1 hx with q | q
      · rw [q]; exact hi
      · exact h.2 x q
    refine ⟨?_, hm⟩
    unfold ins
    split
    · rename_i q
      refine List.pairwise_cons.2 ⟨fun x hx => ?_, (ins_ok hi (ok_tail h) (fun p => hn (by simp [p]))).1⟩
      rcases (mem_ins i x X).1 hx with p | p
      · omega
      · exact ok_head h x p
    · rename_i q
      have hne : a ≠ i := fun e => hn (by simp [e])
      refine List.pairwise_cons.2 ⟨fun x hx => ?_, h.1⟩
      rcases List.mem_cons.1 hx with p | p
      · omega
      · have := ok_head h x p; omega
theorem with_ok {X : List Int} (h : Ok X) (i : Int) : Ok (withL X i) := by
  unfold withL
  split
  · rename_i q; exact ins_ok q.1 h q.2
  · exact h
theorem mem_with (X : List Int) (i x : Int) : x ∈ withL X i ↔ x ∈ X ∨ (x = i ∧ adm i) := by
  unfold withL
  by_cases q : adm i ∧ i ∉ X
  · rw [if_pos q, mem_ins]
    exact ⟨fun h => h.elim (fun e => .inr ⟨e, q.1⟩) .inl, fun h => h.elim .inr fun e => .inl e.1⟩
  · rw [if_neg q]
    refine ⟨.inl, fun h => h.elim id fun e => ?_⟩
    rcases Classical.em (i ∈ X) with p | p
    · rw [e.1]; exact p
    · exact absurd ⟨e.2, p⟩ q
theorem with_len (X : List Int) (i : Int) : (withL X i).length = X.length + if adm i ∧ i ∉ X then 1 else 0 := by
  unfold withL
  split
  · rw [ins_len]
  · rfl
theorem without_ok {X : List Int} (h : Ok X) (i : Int) : Ok (withoutL X i) := ok_sub h List.filter_sublist
theorem mem_without (X : List Int) (i x : Int) : x ∈ withoutL X i ↔ x ∈ X ∧ x ≠ i := by simp [withoutL]
theorem fold_ok : ∀ (l X : List Int), Ok X → Ok (l.foldl withL X)
  | [], _, h => h
  | i :: l, _, h => fold_ok l _ (with_ok h i)
theorem mem_fold : ∀ (l : List Int) (X : List Int) (x : Int), x ∈ l.foldl withL X ↔ x ∈ X ∨ (x ∈ l ∧ adm x)
  | [], _, _ => by simp
  | i :: l, X, x => by
    rw [List.foldl_cons, mem_fold l, mem_with, List.mem_cons]
    constructor
    · rintro ((q | ⟨rfl, q⟩) | ⟨q, p⟩)
      · exact .inl q
      · exact .inr ⟨.inl rfl, q⟩
      · exact .inr ⟨.inr q, p⟩
    · rintro (q | ⟨rfl | q, p⟩)
      · exact .inl (.inl q)
      · exact .inl (.inr ⟨rfl, p⟩)
      · exact .inr ⟨q, p⟩
theorem of_ok (l : List Int) : Ok (ofL l) := fold_ok l [] ok_nil
theorem mem_of (l : List Int) (x : Int) : x ∈ ofL l ↔ x ∈ l ∧ adm x := by
  unfold ofL
  rw [mem_fold]
  simp
theorem or_ok {X : List Int} (h : Ok X) (Y : List Int) : Ok (orL X Y) := fold_ok Y X h
theorem mem_or {X Y : List Int} (hY : Ok Y) (x : Int) : x ∈ orL X Y ↔ x ∈ X ∨ x ∈ Y := by
  unfold orL
  rw [mem_fold]
  exact ⟨fun h => h.elim .inl fun q => .inr q.1, fun h => h.elim .inl fun q => .inr ⟨q, hY.2 x q⟩⟩
theorem mem_upto (n x : Int) : x ∈ uptoL n ↔ 0 ≤ x ∧ x < n ∧ x < 65536 := by
  unfold uptoL cut
  rw [List.mem_map]
  constructor
  · rintro ⟨k, hk, rfl⟩
    rw [List.mem_range] at hk
    omega
  · intro h
    exact ⟨x.toNat, by rw [List.mem_range]; omega, by omega⟩
theorem upto_ok (n : Int) : Ok (uptoL n) := by
  refine ⟨?_, fun x hx => ?_⟩
  · unfold uptoL
    rw [List.pairwise_map]
    exact List.Pairwise.imp (fun {a b} h => by omega) List.pairwise_lt_range
  · have := (mem_upto n x).1 hx
    exact ⟨this.1, this.2.2⟩
theorem and_ok {X : List Int} (h : Ok X) (Y : List Int) : Ok (andL X Y) := ok_sub h List.filter_sublist
theorem mem_and (X Y : List Int) (x : Int) : x ∈ andL X Y ↔ x ∈ X ∧ x ∈ Y := by simp [andL]
theorem not_ok (X : List Int) (n : Int) : Ok (notL X n) := ok_sub (upto_ok n) List.filter_sublist
theorem mem_not (X : List Int) (n x : Int) : x ∈ notL X n ↔ (0 ≤ x ∧ x < n ∧ x < 65536) ∧ x ∉ X := by
  unfold notL
  rw [List.mem_filter, mem_upto]
  simp
theorem parts (p : Int → Bool) : ∀ l : List Int, l.length = (l.filter p).length + (l.filter fun x => !p x).length
  | [] => rfl
  | a :: l => by
    have := parts p l
    rw [List.filter_cons, List.filter_cons]
    by_cases q : p a = true
    · simp [q]; omega
    · simp [q]; omega
/-- The counts of two sets. -/
theorem fold_len : ∀ {Y : List Int} (_ : Y.Nodup) (_ : ∀ y ∈ Y, adm y) (X : List Int), (Y.foldl withL X).length = X.length + (Y.filter fun y => decide (y ∉ X)).length
  | [], _, _, X => by simp
  | y :: Y, hn, ha, X => by
    rw [List.nodup_cons] at hn
    rw [List.foldl_cons, fold_len hn.2 (fun z hz => ha z (by simp [hz])), with_len]
    have hf : (Y.filter fun z => decide (z ∉ withL X y)) = Y.filter fun z => decide (z ∉ X) := by
      refine List.filter_congr fun z hz => ?_
      have hzy : z ≠ y := fun e => hn.1 (by rw [← e]; exact hz)
      have : z ∈ withL X y ↔ z ∈ X := by rw [mem_with]; exact ⟨fun h => h.elim id fun e => absurd e.1 hzy, .inl⟩
      simp [this]
    rw [hf, List.filter_cons]
    by_cases q : y ∈ X
    · simp [q]
    · simp [q, ha y (by simp)]
      omega
theorem len_or {X Y : List Int} (hX : Ok X) (hY : Ok Y) : (andL X Y).length + (orL X Y).length = X.length + Y.length := by
  have h1 : andL X Y = Y.filter fun y => decide (y ∈ X) := ok_ext (and_ok hX Y) (ok_sub hY List.filter_sublist) fun x => by rw [mem_and, List.mem_filter]; simp [and_comm]
  have h2 := fold_len (ok_nodup hY) hY.2 X
  unfold orL
  rw [h2, h1]
  have h3 := parts (fun y => decide (y ∈ X)) Y
  have h4 : (Y.filter fun y => !decide (y ∈ X)) = Y.filter fun y => decide (y ∉ X) := List.filter_congr fun z _ => by simp
  rw [h4] at h3
  omega
theorem not_and {X Y : List Int} (n : Int) : notL (andL X Y) n = orL (notL X n) (notL Y n) :=
  ok_ext (not_ok _ _) (or_ok (not_ok _ _) _) fun x => by
    rw [mem_not, mem_and, mem_or (not_ok _ _), mem_not, mem_not]
    constructor
    · rintro ⟨h, q⟩
      by_cases p : x ∈ X
      · exact .inr ⟨h, fun r => q ⟨p, r⟩⟩
      · exact .inl ⟨h, p⟩
    · rintro (⟨h, q⟩ | ⟨h, q⟩)
      · exact ⟨h, fun p => q p.1⟩
      · exact ⟨h, fun p => q p.2⟩
theorem not_or {X Y : List Int} (hY : Ok Y) (n : Int) : notL (orL X Y) n = andL (notL X n) (notL Y n) :=
  ok_ext (not_ok _ _) (and_ok (not_ok _ _) _) fun x => by
    rw [mem_not, mem_or hY, mem_and, mem_not, mem_not]
    exact ⟨fun ⟨h, q⟩ => ⟨⟨h, fun p => q (.inl p)⟩, h, fun p => q (.inr p)⟩, fun ⟨⟨h, q⟩, _, p⟩ => ⟨h, fun r => r.elim q p⟩⟩
theorem spread {X Y Z : List Int} (hX : Ok X) (hZ : Ok Z) : andL X (orL Y Z) = orL (andL X Y) (andL X Z) :=
  ok_ext (and_ok hX _) (or_ok (and_ok hX _) _) fun x => by
    rw [mem_and, mem_or hZ, mem_or (and_ok hX _), mem_and, mem_and]
    exact ⟨fun ⟨h, q⟩ => q.elim (fun p => .inl ⟨h, p⟩) fun p => .inr ⟨h, p⟩, fun q => q.elim (fun p => ⟨p.1, .inl p.2⟩) fun p => ⟨p.1, .inr p.2⟩⟩
theorem twice {X : List Int} (hX : Ok X) (n : Int) : notL (notL X n) n = andL X (uptoL n) :=
  ok_ext (not_ok _ _) (and_ok hX _) fun x => by
    rw [mem_not, mem_not, mem_and, mem_upto]
    exact ⟨fun ⟨h, q⟩ => ⟨Classical.byContradiction fun p => q ⟨h, p⟩, h⟩, fun ⟨h, q⟩ => ⟨q, fun p => p.2 h⟩⟩
theorem apart (X : List Int) (n : Int) : andL (notL X n) X = [] := by
  unfold andL
  rw [List.filter_eq_nil_iff]
  intro x hx
  have := ((mem_not X n x).1 hx).2
  simpa using this
theorem or_nil {X : List Int} (hX : Ok X) : orL [] X = X := ok_ext (or_ok ok_nil _) hX fun x => by rw [mem_or hX]; simp
theorem and_nil (X : List Int) : andL [] X = [] := rfl
theorem without_len {X : List Int} (hX : Ok X) (i : Int) : (withoutL X i).length + (if i ∈ X then 1 else 0) = X.length := by
  have h := parts (fun x => decide (x ≠ i)) X
  have h1 : (X.filter fun x => !decide (x ≠ i)).length = if i ∈ X then 1 else 0 := by
    have e : (X.filter fun x => !decide (x ≠ i)) = X.filter fun x => x == i := List.filter_congr fun z _ => by by_cases q : z = i <;> simp [q]
    rw [e]
    have := List.Nodup.count (a := i) (ok_nodup hX)
    rw [← this, List.count_eq_length_filter]
  unfold withoutL
  omega
end Bs
end Go.Proofs.YtgmjafammdkgfaaDoor
