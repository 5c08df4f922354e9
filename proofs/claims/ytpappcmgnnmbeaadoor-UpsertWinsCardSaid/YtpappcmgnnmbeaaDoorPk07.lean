/- Sets of numbers as lists that rise, in plain words. No program, no memory. Which rows count, in plain words: the winner of a key, the numbers of a segment's rows, what Add and Seal answer. No memory. -/
import Derived.Lib.Hide
import Derived.Test.YtpappcmgnnmbeaaDoorPk04
import Derived.Test.YtpappcmgnnmbeaaDoorPk02
namespace Go.Proofs.YtpappcmgnnmbeaaDoor
set_option maxRecDepth 20000
namespace Bs
/-- A number that may be in a set. -/
def adm (i : Int) : Prop := 0 ≤ i ∧ i < 65536
instance : DecidablePred adm := fun i => inferInstanceAs (Decidable (0 ≤ i ∧ i < 65536))
/-- A list that rises, of numbers that may be in a set. -/
def Ok (X : List Int) : Prop := X.Pairwise (fun a b => a < b) ∧ ∀ x ∈ X, adm x
theorem ok_nil : Ok [] := ⟨List.Pairwise.nil, fun x hx => by simp at hx⟩
theorem ok_tail {a : Int} {X : List Int} (h : Ok (a :: X)) : Ok X := ⟨(List.pairwise_cons.1 h.1).2, fun x hx => h.2 x (by simp [hx])⟩
theorem ok_head {a : Int} {X : List Int} (h : Ok (a :: X)) : ∀ x ∈ X, a < x := (List.pairwise_cons.1 h.1).1
theorem ok_nodup {X : List Int} (h : Ok X) : X.Nodup := List.Pairwise.imp (S := fun a b => a ≠ b) (fun {a b} q e => by omega) h.1
theorem ok_sub {X Y : List Int} (h : Ok Y) (hs : X.Sublist Y) : Ok X := ⟨h.1.sublist hs, fun x hx => h.2 x (hs.subset hx)⟩
theorem ok_ext : ∀ {X Y : List Int}, Ok X → Ok Y → (∀ x, x ∈ X ↔ x ∈ Y) → X = Y
  | [], [], _, _, _ => rfl
  | [], y :: Y, _, _, h => absurd ((h y).2 (by simp)) (by simp)
  | x :: X, [], _, _, h => absurd ((h x).1 (by simp)) (by simp)
  | x :: X, y :: Y, hx, hy, h => by
    have e : x = y := by
      rcases List.mem_cons.1 ((h x).1 (by simp)) with q | q
      · exact q
      · rcases List.mem_cons.1 ((h y).2 (by simp)) with p | p
        · exact p.symm
        · have := ok_head hx y p
          have := ok_head hy x q
          omega
    subst e
    rw [ok_ext (ok_tail hx) (ok_tail hy) fun z => by
      have hz := h z
      rw [List.mem_cons, List.mem_cons] at hz
      constructor
      · intro q
        rcases hz.1 (.inr q) with p | p
        · have := ok_head hx z q; omega
        · exact p
      · intro q
        rcases hz.2 (.inr q) with p | p
        · have := ok_head hy z q; omega
        · exact p]
/-- A number in its place. -/
def ins (i : Int) : List Int → List Int
  | [] => [i]
  | a :: l => if a < i then a :: ins i l else i :: a :: l
def withL (X : List Int) (i : Int) : List Int := if adm i ∧ i ∉ X then ins i X else X
def withoutL (X : List Int) (i : Int) : List Int := X.filter fun x => decide (x ≠ i)
def ofL (l : List Int) : List Int := l.foldl withL []
/-- How many numbers lie below n that may be in a set. -/
def cut (n : Int) : Nat := (min n 65536).toNat
def uptoL (n : Int) : List Int := (List.range (cut n)).map fun (k : Nat) => (k : Int)
def andL (X Y : List Int) : List Int := X.filter fun x => decide (x ∈ Y)
def orL (X Y : List Int) : List Int := Y.foldl withL X
def notL (X : List Int) (n : Int) : List Int := (uptoL n).filter fun x => decide (x ∉ X)
theorem mem_ins (i x : Int) : ∀ X : List Int, x ∈ ins i X ↔ x = i ∨ x ∈ X
  | [] => by simp [ins]
  | a :: X => by
    unfold ins
    split
    · rw [List.mem_cons, mem_ins i x X, List.mem_cons]
      constructor
      · rintro (q | q | q)
        · exact .inr (.inl q)
        · exact .inl q
        · exact .inr (.inr q)
      · rintro (q | q | q)
        · exact .inr (.inl q)
        · exact .inl q
        · exact .inr (.inr q)
    · rw [List.mem_cons]
theorem ins_len (i : Int) : ∀ X : List Int, (ins i X).length = X.length + 1
  | [] => rfl
  | a :: X => by
    unfold ins
    split
    · rw [List.length_cons, ins_len i X, List.length_cons]
    · rw [List.length_cons]
theorem ins_ok {i : Int} (hi : adm i) : ∀ {X : List Int}, Ok X → i ∉ X → Ok (ins i X)
  | [], _, _ => ⟨by simp [ins], fun x hx => by rw [show x = i by simpa [ins] using hx]; exact hi⟩
  | a :: X, h, hn => by
    have hm : ∀ x ∈ ins i (a :: X), adm x := fun x hx => by
      rcases (mem_ins i x _).1 hx with q | q
      · rw [q]; exact hi
      · exact h.2 x q
    refine ⟨?_, hm⟩
    unfold ins
    split
    · rename_i q
      refine List.pairwise_cons.2 ⟨fun x hx => ?_, (ins_ok hi (ok_tail h) (fun p => hn (by simp [p]))).1⟩
      rcases (mem_ins i x X).1 hx with p | p
      · omega
      · exact ok_head h x p
    · rename_i q
      have hne : a ≠ i := fun e => hn (by simp [e])
      refine List.pairwise_cons.2 ⟨fun x hx => ?_, h.1⟩
      rcases List.mem_cons.1 hx with p | p
      · omega
      · have := ok_head h x p; omega
theorem with_ok {X : List Int} (h : Ok X) (i : Int) : Ok (withL X i) := by
  unfold withL
  split
  · rename_i q; exact ins_ok q.1 h q.2
  · exact h
theorem mem_with (X : List Int) (i x : Int) : x ∈ withL X i ↔ x ∈ X ∨ (x = i ∧ adm i) := by
  unfold withL
  by_cases q : adm i ∧ i ∉ X
  · rw [if_pos q, mem_ins]
    exact ⟨fun h => h.elim (fun e => .inr ⟨e, q.1⟩) .inl, fun h => h.elim .inr fun e => .inl e.1⟩
  · rw [if_neg q]
    refine ⟨.inl, fun h => h.elim id fun e => ?_⟩
    rcases Classical.em (i ∈ X) with p | p
    · rw [e.1]; exact p
    · exact absurd ⟨e.2, p⟩ q
theorem with_len (X : List Int) (i : Int) : (withL X i).length = X.length + if adm i ∧ i ∉ X then 1 else 0 := by
  unfold withL
  split
  · rw [ins_len]
  · rfl
theorem without_ok {X : List Int} (h : Ok X) (i : Int) : Ok (withoutL X i) := ok_sub h List.filter_sublist
theorem mem_without (X : List Int) (i x : Int) : x ∈ withoutL X i ↔ x ∈ X ∧ x ≠ i := by simp [withoutL]
theorem fold_ok : ∀ (l X : List Int), Ok X → Ok (l.foldl withL X)
  | [], _, h => h
  | i :: l, _, h => fold_ok l _ (with_ok h i)
theorem mem_fold : ∀ (l : List Int) (X : List Int) (x : Int), x ∈ l.foldl withL X ↔ x ∈ X ∨ (x ∈ l ∧ adm x)
  | [], _, _ => by simp
  | i :: l, X, x => by
    rw [List.foldl_cons, mem_fold l, mem_with, List.mem_cons]
    constructor
    · rintro ((q | ⟨rfl, q⟩) | ⟨q, p⟩)
      · exact .inl q
      · exact .inr ⟨.inl rfl, q⟩
      · exact .inr ⟨.inr q, p⟩
    · rintro (q | ⟨rfl | q, p⟩)
      · exact .inl (.inl q)
      · exact .inl (.inr ⟨rfl, p⟩)
      · exact .inr ⟨q, p⟩
theorem of_ok (l : List Int) : Ok (ofL l) := fold_ok l [] ok_nil
theorem mem_of (l : List Int) (x : Int) : x ∈ ofL l ↔ x ∈ l ∧ adm x := by
  unfold ofL
  rw [mem_fold]
  simp
theorem or_ok {X : List Int} (h : Ok X) (Y : List Int) : Ok (orL X Y) := fold_ok Y X h
theorem mem_or {X Y : List Int} (hY : Ok Y) (x : Int) : x ∈ orL X Y ↔ x ∈ X ∨ x ∈ Y := by
  unfold orL
  rw [mem_fold]
  exact ⟨fun h => h.elim .inl fun q => .inr q.1, fun h => h.elim .inl fun q => .inr ⟨q, hY.2 x q⟩⟩
theorem mem_upto (n x : Int) : x ∈ uptoL n ↔ 0 ≤ x ∧ x < n ∧ x < 65536 := by
  unfold uptoL cut
  rw [List.mem_map]
  constructor
  · rintro ⟨k, hk, rfl⟩
    rw [List.mem_range] at hk
    omega
  · intro h
    exact ⟨x.toNat, by rw [List.mem_range]; omega, by omega⟩
theorem upto_ok (n : Int) : Ok (uptoL n) := by
  refine ⟨?_, fun x hx => ?_⟩
  · unfold uptoL
    rw [List.pairwise_map]
    exact List.Pairwise.imp (fun {a b} h => by omega) List.pairwise_lt_range
  · have := (mem_upto n x).1 hx
    exact ⟨this.1, this.2.2⟩
theorem and_ok {X : List Int} (h : Ok X) (Y : List Int) : Ok (andL X Y) := ok_sub h List.filter_sublist
theorem mem_and (X Y : List Int) (x : Int) : x ∈ andL X Y ↔ x ∈ X ∧ x ∈ Y := by simp [andL]
theorem not_ok (X : List Int) (n : Int) : Ok (notL X n) := ok_sub (upto_ok n) List.filter_sublist
theorem mem_not (X : List Int) (n x : Int) : x ∈ notL X n ↔ (0 ≤ x ∧ x < n ∧ x < 65536) ∧ x ∉ X := by
  unfold notL
  rw [List.mem_filter, mem_upto]
  simp
theorem parts (p : Int → Bool) : ∀ l : List Int, l.length = (l.filter p).length + (l.filter fun x => !p x).length
  | [] => rfl
  | a :: l => by
    have := parts p l
    rw [List.filter_cons, List.filter_cons]
    by_cases q : p a = true
    · simp [q]; omega
    · simp [q]; omega
/-- The counts of two sets. -/
theorem fold_len : ∀ {Y : List Int} (_ : Y.Nodup) (_ : ∀ y ∈ Y, adm y) (X : List Int), (Y.foldl withL X).length = X.length + (Y.filter fun y => decide (y ∉ X)).length
  | [], _, _, X => by simp
  | y :: Y, hn, ha, X => by
    rw [List.nodup_cons] at hn
    rw [List.foldl_cons, fold_len hn.2 (fun z hz => ha z (by simp [hz])), with_len]
    have hf : (Y.filter fun z => decide (z ∉ withL X y)) = Y.filter fun z => decide (z ∉ X) := by
      refine List.filter_congr fun z hz => ?_
      have hzy : z ≠ y := fun e => hn.1 (by rw [← e]; exact hz)
      have : z ∈ withL X y ↔ z ∈ X := by rw [mem_with]; exact ⟨fun h => h.elim id fun e => absurd e.1 hzy, .inl⟩
      simp [this]
    rw [hf, List.filter_cons]
    by_cases q : y ∈ X
    · simp [q]
    · simp [q, ha y (by simp)]
      omega
theorem len_or {X Y : List Int} (hX : Ok X) (hY : Ok Y) : (andL X Y).length + (orL X Y).length = X.length + Y.length := by
  have h1 : andL X Y = Y.filter fun y => decide (y ∈ X) := ok_ext (and_ok hX Y) (ok_sub hY List.filter_sublist) fun x => by rw [mem_and, List.mem_filter]; simp [and_comm]
  have h2 := fold_len (ok_nodup hY) hY.2 X
  unfold orL
  rw [h2, h1]
  have h3 := parts (fun y => decide (y ∈ X)) Y
  have h4 : (Y.filter fun y => !decide (y ∈ X)) = Y.filter fun y => decide (y ∉ X) := List.filter_congr fun z _ => by simp
  rw [h4] at h3
  omega
theorem not_and {X Y : List Int} (n : Int) : notL (andL X Y) n = orL (notL X n) (notL Y n) :=
  ok_ext (not_ok _ _) (or_ok (not_ok _ _) _) fun x => by
    rw [mem_not, mem_and, mem_or (not_ok _ _), mem_not, mem_not]
    constructor
    · rintro ⟨h, q⟩
      by_cases p : x ∈ X
      · exact .inr ⟨h, fun r => q ⟨p, r⟩⟩
      · exact .inl ⟨h, p⟩
    · rintro (⟨h, q⟩ | ⟨h, q⟩)
      · exact ⟨h, fun p => q p.1⟩
      · exact ⟨h, fun p => q p.2⟩
theorem not_or {X Y : List Int} (hY : Ok Y) (n : Int) : notL (orL X Y) n = andL (notL X n) (notL Y n) :=
  ok_ext (not_ok _ _) (and_ok (not_ok _ _) _) fun x => by
    rw [mem_not, mem_or hY, mem_and, mem_not, mem_not]
    exact ⟨fun ⟨h, q⟩ => ⟨⟨h, fun p => q (.inl p)⟩, h, fun p => q (.inr p)⟩, fun ⟨⟨h, q⟩, _, p⟩ => ⟨h, fun r => r.elim q p⟩⟩
theorem spread {X Y Z : List Int} (hX : Ok X) (hZ : Ok Z) : andL X (orL Y Z) = orL (andL X Y) (andL X Z) :=
  ok_ext (and_ok hX _) (or_ok (and_ok hX _) _) fun x => by
    rw [mem_and, mem_or hZ, mem_or (and_ok hX _), mem_and, mem_and]
    exact ⟨fun ⟨h, q⟩ => q.elim (fun p => .inl ⟨h, p⟩) fun p => .inr ⟨h, p⟩, fun q => q.elim (fun p => ⟨p.1, .inl p.2⟩) fun p => ⟨p.1, .inr p.2⟩⟩
theorem twice {X : List Int} (hX : Ok X) (n : Int) : notL (notL X n) n = andL X (uptoL n) :=
  ok_ext (not_ok _ _) (and_ok hX _) fun x => by
    rw [mem_not, mem_not, mem_and, mem_upto]
    exact ⟨fun ⟨h, q⟩ => ⟨Classical.byContradiction fun p => q ⟨h, p⟩, h⟩, fun ⟨h, q⟩ => ⟨q, fun p => p.2 h⟩⟩
theorem apart (X : List Int) (n : Int) : andL (notL X n) X = [] := by
  unfold andL
  rw [List.filter_eq_nil_iff]
  intro x hx
  have := ((mem_not X n x).1 hx).2
  simpa using this
theorem or_nil {X : List Int} (hX : Ok X) : orL [] X = X := ok_ext (or_ok ok_nil _) hX fun x => by rw [mem_or hX]; simp
theorem and_nil (X : List Int) : andL [] X = [] := rfl
theorem without_len {X : List Int} (hX : Ok X) (i : Int) : (withoutL X i).length + (if i ∈ X then 1 else 0) = X.length := by
  have h := parts (fun x => decide (x ≠ i)) X
  have h1 : (X.filter fun x => !decide (x ≠ i)).length = if i ∈ X then 1 else 0 := by
    have e : (X.filter fun x => !decide (x ≠ i)) = X.filter fun x => x == i := List.filter_congr fun z _ => by by_cases q : z = i <;> simp [q]
    rw [e]
    have := List.Nodup.count (a := i) (ok_nodup hX)
    rw [← this, List.count_eq_length_filter]
  unfold withoutL
  omega
end Bs
end Go.Proofs.YtpappcmgnnmbeaaDoor
namespace Go.Proofs.YtpappcmgnnmbeaaDoor
set_option maxRecDepth 20000
namespace Up
open Va (Vl)
open Sc (Sch)
open Sc (tr)
/-- A row of a table. -/
structure Rw where
  key : Vl
  cmp : Int
  gone : Bool
  seg : Int
  doc : Int
  off : Int
deriving DecidableEq
/-- Does a win over b? -/
def beats (a b : Rw) : Prop := b.cmp < a.cmp ∨ (a.cmp = b.cmp ∧ b.off < a.off)
instance (a b : Rw) : Decidable (beats a b) := by unfold beats; infer_instance
def stp (o : Option Rw) (r : Rw) : Option Rw :=
  match o with
  | none => some r
  | some b => if beats r b then some r else some b
/-- The winner of a key. -/
def win (kd : Bool) (L : List Rw) (v : Vl) : Option Rw := if kd = true then (L.filter fun r => decide (r.key = v)).foldl stp none else none
/-- The keys, each once. -/
def stk (K : List Vl) (r : Rw) : List Vl := if r.key ∈ K then K else K ++ [r.key]
def keysL (L : List Rw) : List Vl := L.foldl stk []
def keysN (kd : Bool) (L : List Rw) : Nat := if kd = true then (keysL L).length else 0
/-- The numbers of a segment's rows. -/
def docsL (L : List Rw) (g : Int) : List Int := (L.filter fun r => decide (r.seg = g)).foldl (fun X r => Bs.withL X r.doc) []
theorem win_app (kd : Bool) (L : List Rw) (r : Rw) (v : Vl) : win kd (L ++ [r]) v = if kd = true ∧ r.key = v then stp (win kd L v) r else win kd L v := by
  unfold win
  cases kd
  · simp
  · by_cases e : r.key = v
    · simp [e, List.filter_append]
    · simp [e, List.filter_append]
theorem win_nil (kd : Bool) (v : Vl) : win kd [] v = none := by unfold win; cases kd <;> rfl
theorem win_no (L : List Rw) (v : Vl) : win false L v = none := rfl
theorem keysN_app (kd : Bool) (L : List Rw) (r : Rw) : keysN kd (L ++ [r]) = if kd = true ∧ r.key ∉ keysL L then keysN kd L + 1 else keysN kd L := by
  unfold keysN
  cases kd
  · simp
  · rw [keysL, List.foldl_append]
    show (if true = true then (stk (keysL L) r).length else 0) = _
    unfold stk
    by_cases e : r.key ∈ keysL L
    · simp [e]
    · simp [e]
theorem docsL_app (L : List Rw) (r : Rw) (g : Int) : docsL (L ++ [r]) g = if r.seg = g then Bs.withL (docsL L g) r.doc else docsL L g := by
  unfold docsL
  by_cases e : r.seg = g
  · simp [e, List.filter_append]
  · simp [e, List.filter_append]
theorem docsL_fold (l : List Rw) (X : List Int) : l.foldl (fun X r => Bs.withL X r.doc) X = (l.map Rw.doc).foldl Bs.withL X := by
  induction l generalizing X with
  | nil => rfl
  | cons a l ih => exact ih _
theorem docsL_ok (L : List Rw) (g : Int) : Bs.Ok (docsL L g) := by
  unfold docsL
  rw [docsL_fold]
  exact Bs.fold_ok _ _ Bs.ok_nil
theorem mem_docs (L : List Rw) (g x : Int) : x ∈ docsL L g ↔ (∃ r ∈ L, r.seg = g ∧ r.doc = x) ∧ Bs.adm x := by
  unfold docsL
  rw [docsL_fold, Bs.mem_fold]
  simp only [List.mem_map, List.mem_filter, decide_eq_true_eq, List.not_mem_nil, false_or]
  constructor
  · rintro ⟨⟨r, ⟨h1, h2⟩, h3⟩, h4⟩; exact ⟨⟨r, h1, h2, h3⟩, h4⟩
  · rintro ⟨⟨r, h1, h2, h3⟩, h4⟩; exact ⟨⟨r, ⟨h1, h2⟩, h3⟩, h4⟩
theorem fold_win {l : List Rw} : ∀ {o : Option Rw} {r : Rw}, l.foldl stp o = some r → (o = some r ∨ r ∈ l) := by
  induction l with
  | nil => intro o r h; exact .inl h
  | cons a l ih =>
    intro o r h
    rcases ih h with h | h
    · rcases o with _ | b
      · simp only [stp, Option.some.injEq] at h
        exact .inr (by simp [h])
      · simp only [stp] at h
        split at h
        · simp only [Option.some.injEq] at h
          exact .inr (by simp [h])
        · exact .inl h
    · exact .inr (by simp [h])
theorem win_mem {kd : Bool} {L : List Rw} {v : Vl} {r : Rw} (h : win kd L v = some r) : r ∈ L ∧ r.key = v ∧ kd = true := by
  unfold win at h
  split at h
  · rename_i hk
    rcases fold_win h with h | h
    · cases h
    · simp only [List.mem_filter, decide_eq_true_eq] at h
      exact ⟨h.1, h.2, hk⟩
  · cases h
theorem fold_some : ∀ (l : List Rw) (r : Rw), ∃ b, l.foldl stp (some r) = some b
  | [], r => ⟨r, rfl⟩
  | a :: l, r => by
    simp only [List.foldl_cons, stp]
    split
    · exact fold_some l a
    · exact fold_some l r
theorem win_some {L : List Rw} {v : Vl} {r : Rw} (hr : r ∈ L) (hv : r.key = v) : ∃ b, win true L v = some b := by
  unfold win
  rw [if_pos rfl]
  have hm : r ∈ L.filter fun r => decide (r.key = v) := by simp [hr, hv]
  generalize L.filter (fun r => decide (r.key = v)) = l at hm
  rcases l with _ | ⟨a, l⟩
  · cases hm
  · exact fold_some l a
theorem mem_keys (L : List Rw) (v : Vl) : v ∈ keysL L ↔ ∃ r ∈ L, r.key = v := by
  unfold keysL
  have : ∀ (l : List Rw) (K : List Vl), v ∈ l.foldl stk K ↔ v ∈ K ∨ ∃ r ∈ l, r.key = v := by
    intro l
    induction l with
    | nil => intro K; simp
    | cons a l ih =>
      intro K
      rw [List.foldl_cons, ih]
      unfold stk
      by_cases e : a.key ∈ K
      · rw [if_pos e]
        constructor
        · rintro (h | ⟨r, h1, h2⟩)
          · exact .inl h
          · exact .inr ⟨r, by simp [h1], h2⟩
        · rintro (h | ⟨r, h1, h2⟩)
          · exact .inl h
          · rcases List.mem_cons.1 h1 with rfl | h1
            · exact .inl (h2 ▸ e)
            · exact .inr ⟨r, h1, h2⟩
      · rw [if_neg e]
        simp only [List.mem_append, List.mem_singleton]
        constructor
        · rintro ((h | h) | ⟨r, h1, h2⟩)
          · exact .inl h
          · exact .inr ⟨a, by simp, h.symm⟩
          · exact .inr ⟨r, by simp [h1], h2⟩
        · rintro (h | ⟨r, h1, h2⟩)
          · exact .inl (.inl h)
          · rcases List.mem_cons.1 h1 with rfl | h1
            · exact .inl (.inr h2.symm)
            · exact .inr ⟨r, h1, h2⟩
  rw [this]
  simp
theorem keys_win (L : List Rw) (v : Vl) : v ∈ keysL L ↔ (win true L v).isSome = true := by
  rw [mem_keys]
  constructor
  · rintro ⟨r, h1, h2⟩
    obtain ⟨b, hb⟩ := win_some h1 h2
    rw [hb]; rfl
  · intro h
    obtain ⟨b, hb⟩ := Option.isSome_iff_exists.1 h
    exact ⟨b, (win_mem hb).1, (win_mem hb).2.1⟩
theorem keysN_step (kd : Bool) (L : List Rw) (r : Rw) : keysN kd (L ++ [r]) = if kd = true ∧ (win kd L r.key).isSome = false then keysN kd L + 1 else keysN kd L := by
  rw [keysN_app]
  cases kd
  · simp
  · have := keys_win L r.key
    by_cases e : r.key ∈ keysL L
    · have h := this.1 e
      simp [e, h]
    · have h : (win true L r.key).isSome = false := by
        cases q : (win true L r.key).isSome
        · rfl
        · exact absurd (this.2 q) e
      simp [e, h]
theorem keysN_le (kd : Bool) (L : List Rw) : keysN kd L ≤ L.length := by
  unfold keysN
  split
  · have : ∀ (l : List Rw) (K : List Vl), (l.foldl stk K).length ≤ K.length + l.length := by
      intro l
      induction l with
      | nil => intro K; simp
      | cons a l ih =>
        intro K
        refine Nat.le_trans (ih _) ?_
        unfold stk
        split <;> simp <;> omega
    simpa [keysL] using this L []
  · omega
/-- A row of a schema at a place, with an offset. -/
def rw_ (s : Sch) (vs : List Vl) (seg doc off : Int) : Rw :=
  if s.key = -1 then ⟨default, 0, false, seg, doc, off⟩
  else ⟨vs.getD s.key.toNat default, (vs.getD s.cmp.toNat default).i, decide (s.del ≠ -1) && (vs.getD s.del.toNat default).b, seg, doc, off⟩
theorem rw_seg (s : Sch) (vs : List Vl) (seg doc off : Int) : (rw_ s vs seg doc off).seg = seg ∧ (rw_ s vs seg doc off).doc = doc ∧ (rw_ s vs seg doc off).off = off := by
  unfold rw_
  split <;> exact ⟨rfl, rfl, rfl⟩
def PlaceOk (seg doc off : Int) : Prop := 0 ≤ seg ∧ seg ≤ 1073741824 ∧ 0 ≤ doc ∧ doc ≤ 65535 ∧ 0 ≤ off ∧ off ≤ 1099511627776
instance (seg doc off : Int) : Decidable (PlaceOk seg doc off) := by unfold PlaceOk; infer_instance
/-- Is there a row at this place, or is the winner of the key no better and no worse? -/
def Here (L : List Rw) (seg doc : Int) : Prop := ∃ x ∈ L, x.seg = seg ∧ x.doc = doc
def Tie (kd : Bool) (L : List Rw) (r : Rw) : Prop := ∃ b, win kd L r.key = some b ∧ b.cmp = r.cmp ∧ b.off = r.off
def kdS (s : Sch) : Bool := decide (s.key ≠ -1)
/-- What Add answers, and the rows behind it. -/
noncomputable def addE (s : Sch) (L : List Rw) (vs : List Vl) (seg doc off : Int) : Int :=
  if tr (Sc.FitS s vs ∧ PlaceOk seg doc off) = true then (if tr (Here L seg doc ∨ Tie (kdS s) L (rw_ s vs seg doc off)) = true then 5 else 0) else 1
noncomputable def addL (s : Sch) (L : List Rw) (vs : List Vl) (seg doc off : Int) : List Rw := if addE s L vs seg doc off = 0 then L ++ [rw_ s vs seg doc off] else L
/-- Rows that may be. -/
structure Okl (L : List Rw) : Prop where
  nd : L.Pairwise fun a b => ¬ (a.seg = b.seg ∧ a.doc = b.doc)
  rng : ∀ r ∈ L, PlaceOk r.seg r.doc r.off ∧ (Lit.int .i64 r.cmp).wf = true ∧ Wd.V1 r.key ∧ r.key.s.size ≤ maxLen
theorem okl_nil : Okl [] := ⟨List.Pairwise.nil, by simp⟩
theorem Okl.app {L : List Rw} (h : Okl L) {r : Rw} (h1 : ¬ Here L r.seg r.doc) (h2 : PlaceOk r.seg r.doc r.off ∧ (Lit.int .i64 r.cmp).wf = true ∧ Wd.V1 r.key ∧ r.key.s.size ≤ maxLen) : Okl (L ++ [r]) := by
  refine ⟨List.pairwise_append.2 ⟨h.nd, List.pairwise_singleton _ _, fun a ha b hb => ?_⟩, fun x hx => ?_⟩
  · simp only [List.mem_singleton] at hb
    subst hb
    exact fun q => h1 ⟨a, ha, q⟩
  · rcases List.mem_append.1 hx with hx | hx
    · exact h.rng x hx
    · simp only [List.mem_singleton] at hx
      exact hx ▸ h2
theorem here_docs {L : List Rw} {seg doc : Int} (h : 0 ≤ doc ∧ doc ≤ 65535) : Here L seg doc ↔ doc ∈ docsL L seg := by
  rw [mem_docs]
  unfold Here Bs.adm
  constructor
  · intro q; exact ⟨q, by omega⟩
  · intro q; exact q.1
end Up
end Go.Proofs.YtpappcmgnnmbeaaDoor
