/- What the statements of layer 10 ask of columns and sets in memory: contracts of the calls, as one word; the chapter's example, as plain data. Sets of numbers as lists that rise, in plain words. No program, no memory. A column's numbers and its rows as sets: plain facts. No walk. What the smaller functions of package value do: own, digit; a value's block; a struct result's cell. -/
import Derived.Lib.Hide
import Derived.WalkKit
import Derived.WalkSpells
import Derived.WalkLawsBesides
import Derived.Test.YtnhgijlhnamolaaDoorPk07
import Derived.Test.YtnhgijlhnamolaaDoorProg
import Derived.Test.YtnhgijlhnamolaaDoorPk02
import Derived.Test.YtnhgijlhnamolaaDoorPk04
namespace Go.Proofs.YtnhgijlhnamolaaDoor
set_option maxRecDepth 20000
open Go.RowKit
namespace Cx
open Va (Vl May ord null)
open Sc (tr tr_yes tr_no tr_iff)
open Co Bi
/-- What the calls do; a set of rows lies in memory as S says. -/
structure Ifc (S : World → Option Addr → Nat → Nat → List Int → Prop) : Prop where
  below : ∀ {w w' A n c X}, S w A n c X → Below w.heap.size w w' → S w' A n c X
  list_ : ∀ {w A n c X}, S w A n c X → Tab w → ∀ k, I64 k → Calls Tryd.prog 19 #[.agg #[.slice A n c], .int .i64 k] w (Wd.Out w .i64 (hd k X))
  count_ : ∀ {w A n c X}, S w A n c X → Tab w → Calls Tryd.prog 18 #[.agg #[.slice A n c]] w fun e w' => e = .returned (.int .i64 (X.length : Int)) ∧ Below w.heap.size w w'
  build_ : ∀ (A n c l w), Wd.Vs w A n c l → (∀ x ∈ l, x.s.size ≤ maxLen) → n ≤ 1000 → Tab w → Calls Tryd.prog 9 #[.slice A n c] w (OutC w (build l))
  may_ : ∀ {w A n c B m d C}, Cl w A n c B m d C → n ≤ 1000 → m ≤ 100000 → Tab w → Calls Tryd.prog 16 #[.agg #[.int .i64 C.n, .slice A n c, .slice B m d]] w fun e w' => e = .returned (.bool (tr (Valid C))) ∧ Below w.heap.size w w'
  at_ : ∀ {w A n c B m d C}, Cl w A n c B m d C → n ≤ 1000 → m ≤ 100000 → Tab w → ∀ i, I64 i → Calls Tryd.prog 20 #[.agg #[.int .i64 C.n, .slice A n c, .slice B m d], .int .i64 i] w fun e w' => ∃ k x s b r, (⟨k, x, s, b⟩, r) = atv C i ∧ e = .returned (.tuple #[.agg #[.int .i64 k, .int .i64 x, .string s, .bool b], .bool r]) ∧ Below w.heap.size w w'
  values_ : ∀ {w A n c B m d C}, Cl w A n c B m d C → n ≤ 1000 → m ≤ 100000 → Tab w → Calls Tryd.prog 13 #[.agg #[.int .i64 C.n, .slice A n c, .slice B m d]] w (OutV w (values C))
  range_ : ∀ {w A n c B m d C}, Cl w A n c B m d C → n ≤ 1000 → m ≤ 100000 → Tab w → ∀ lo hi, I64 lo → I64 hi → Calls Tryd.prog 17 #[.agg #[.int .i64 C.n, .slice A n c, .slice B m d], .int .i64 lo, .int .i64 hi] w (Gv S w (rng C lo hi))
  ends_ : ∀ {w A n c B m d C}, Cl w A n c B m d C → n ≤ 1000 → m ≤ 100000 → Tab w → Calls Tryd.prog 22 #[.agg #[.int .i64 C.n, .slice A n c, .slice B m d]] w fun e w' => ∃ k x s b k' x' s' b' r, (⟨k, x, s, b⟩, ⟨k', x', s', b'⟩, r) = ends C ∧ e = .returned (.tuple #[.agg #[.int .i64 k, .int .i64 x, .string s, .bool b], .agg #[.int .i64 k', .int .i64 x', .string s', .bool b'], .bool r]) ∧ Below w.heap.size w w'
  put_ : ∀ {w A n c B m d C}, Cl w A n c B m d C → n ≤ 1000 → m ≤ 100000 → Tab w → Calls Tryd.prog 14 #[.agg #[.int .i64 C.n, .slice A n c, .slice B m d]] w (Wd.Out2 w .u8 (put C).1 (put C).2)
  get_ : ∀ (A n c C more w), Wd.Sl w .u8 A n c (puts C ++ more) → Nm.Byt (puts C ++ more) → n ≤ 200000 → Valid C → (∀ v ∈ C.dict, -9223372036854775808 ≤ v.i ∧ v.i ≤ 9223372036854775807) → Tab w → Calls Tryd.prog 15 #[.slice A n c] w (OutG w C ((puts C).length : Int) 0)
/-- A number's value. -/
def vI (i : Int) : Vl := ⟨1, i, ⟨#[]⟩, false⟩
def exC : Col := ⟨3, [vI 3, vI 7], [5]⟩
theorem ex_may (i : Int) : May (vI i) := .inr (.inl ⟨rfl, rfl, rfl⟩)
theorem ex_up : Dc.Up [vI 3, vI 7] := by
  refine List.pairwise_cons.2 ⟨fun x hx => ?_, List.pairwise_singleton _ _⟩
  rw [List.mem_singleton.1 hx]
  decide +kernel
theorem ex_all : ∀ v ∈ [vI 7, vI 3, vI 7], May v := by
  intro v hv
  simp only [List.mem_cons, List.not_mem_nil, or_false] at hv
  rcases hv with rfl | rfl | rfl <;> exact ex_may _
theorem ex_dct : dct [vI 7, vI 3, vI 7] = [vI 3, vI 7] := by
  refine Dc.up_ext (dct_ris (l := [vI 7, vI 3, vI 7])).2 ex_up fun x => ?_
  rw [dct_mem (by decide) ex_all]
  simp only [List.mem_cons, List.not_mem_nil, or_false]
  constructor
  · rintro (h | h | h)
    · exact .inr h
    · exact .inl h
    · exact .inr h
  · rintro (h | h)
    · exact .inr (.inl h)
    · exact .inl h
theorem ex_ids : ids [vI 7, vI 3, vI 7] = [1, 0, 1] := by
  unfold ids
  rw [ex_dct]
  decide +kernel
theorem ex_build : build [vI 7, vI 3, vI 7] = (exC, 0) := by
  rw [build_ok (by decide) ex_all, ex_ids, ex_dct]
  have : Bc.packL [1, 0, 1] (wdt [vI 3, vI 7] : Int) = [5] := by
    have e : wdt [vI 3, vI 7] = 1 := by
      unfold wdt
      show Bc.wid ((2 : Nat) - 1 : Int) = 1
      rw [Bc.wid_hi _ (by decide), Bc.wid_lo _ (by decide)]
    rw [e]
    decide +kernel
  rw [this]
  rfl
theorem ex_valid : Valid exC := by
  have := valid_build (l := [vI 7, vI 3, vI 7]) (by decide) ex_all
  rwa [ex_build] at this
theorem ex_rng : rng exC 1 2 = [0, 2] := by
  have e := nums_build (l := [vI 7, vI 3, vI 7]) (by decide) ex_all
  rw [ex_build, ex_ids] at e
  unfold rng
  have e' : nums exC = [1, 0, 1] := e
  rw [e']
  decide +kernel
end Cx
end Go.Proofs.YtnhgijlhnamolaaDoor
namespace Go.Proofs.YtnhgijlhnamolaaDoor
set_option maxRecDepth 20000
namespace Bs
/-- A number that may be in a set. -/
def adm (i : Int) : Prop := 0 ≤ i ∧ i < 65536
instance : DecidablePred adm := fun i => inferInstanceAs (Decidable (0 ≤ i ∧ i < 65536))
/-- A list that rises, of numbers that may be in a set. -/
def Ok (X : List Int) : Prop := X.Pairwise (fun a b => a < b) ∧ ∀ x ∈ X, adm x
theorem ok_nil : Ok [] := ⟨List.Pairwise.nil, fun x hx => by simp at hx⟩
theorem ok_tail {a : Int} {X : List Int} (h : Ok (a :: X)) : Ok X := ⟨(List.pairwise_cons.1 h.1).2, fun x hx => h.2 x (by simp [hx])⟩
theorem ok_head {a : Int} {X : List Int} (h : Ok (a :: X)) : ∀ x ∈ X, a < x := (List.pairwise_cons.1 h.1).1
theorem ok_nodup {X : List Int} (h : Ok X) : X.Nodup := List.Pairwise.imp (S := fun a b => a ≠ b) (fun {a b} q e => by omega) h.1
theorem ok_sub {X Y : List Int} (h : Ok Y) (hs : X.Sublist Y) : Ok X := ⟨h.1.sublist hs, fun x hx => h.2 x (hs.subset hx)⟩
theorem ok_ext : ∀ {X Y : List Int}, Ok X → Ok Y → (∀ x, x ∈ X ↔ x ∈ Y) → X = Y
  | [], [], _, _, _ => rfl
  | [], y :: Y, _, _, h => absurd ((h y).2 (by simp)) (by simp)
  | x :: X, [], _, _, h => absurd ((h x).1 (by simp)) (by simp)
  | x :: X, y :: Y, hx, hy, h => by
    have e : x = y := by
      rcases List.mem_cons.1 ((h x).1 (by simp)) with q | q
      · exact q
      · rcases List.mem_cons.1 ((h y).2 (by simp)) with p | p
        · exact p.symm
        · have := ok_head hx y p
          have := ok_head hy x q
          omega
    subst e
    rw [ok_ext (ok_tail hx) (ok_tail hy) fun z => by
      have hz := h z
      rw [List.mem_cons, List.mem_cons] at hz
      constructor
      · intro q
        rcases hz.1 (.inr q) with p | p
        · have := ok_head hx z q; omega
        · exact p
      · intro q
        rcases hz.2 (.inr q) with p | p
        · have := ok_head hy z q; omega
        · exact p]
/-- A number in its place. -/
def ins (i : Int) : List Int → List Int
  | [] => [i]
  | a :: l => if a < i then a :: ins i l else i :: a :: l
def withL (X : List Int) (i : Int) : List Int := if adm i ∧ i ∉ X then ins i X else X
def withoutL (X : List Int) (i : Int) : List Int := X.filter fun x => decide (x ≠ i)
def ofL (l : List Int) : List Int := l.foldl withL []
/-- How many numbers lie below n that may be in a set. -/
def cut (n : Int) : Nat := (min n 65536).toNat
def uptoL (n : Int) : List Int := (List.range (cut n)).map fun (k : Nat) => (k : Int)
def andL (X Y : List Int) : List Int := X.filter fun x => decide (x ∈ Y)
def orL (X Y : List Int) : List Int := Y.foldl withL X
def notL (X : List Int) (n : Int) : List Int := (uptoL n).filter fun x => decide (x ∉ X)
theorem mem_ins (i x : Int) : ∀ X : List Int, x ∈ ins i X ↔ x = i ∨ x ∈ X
  | [] => by simp [ins]
  | a :: X => by
    unfold ins
    split
    · rw [List.mem_cons, mem_ins i x X, List.mem_cons]
      constructor
      · rintro (q | q | q)
        · exact .inr (.inl q)
        · exact .inl q
        · exact .inr (.inr q)
      · rintro (q | q | q)
        · exact .inr (.inl q)
        · exact .inl q
        · exact .inr (.inr q)
    · rw [List.mem_cons]
theorem ins_len (i : Int) : ∀ X : List Int, (ins i X).length = X.length + 1
  | [] => rfl
  | a :: X => by
    unfold ins
    split
    · rw [List.length_cons, ins_len i X, List.length_cons]
    · rw [List.length_cons]
theorem ins_ok {i : Int} (hi : adm i) : ∀ {X : List Int}, Ok X → i ∉ X → Ok (ins i X)
  | [], _, _ => ⟨by simp [ins], fun x hx => by rw [show x = i by simpa [ins] using hx]; exact hi⟩
  | a :: X, h, hn => by
    have hm : ∀ x ∈ ins i (a :: X), adm x := fun x hx => by
      rcases (mem_ins i x _).1 hx with q | q
      · rw [q]; exact hi
      · exact h.2 x q
    refine ⟨?_, hm⟩
    unfold ins
    split
    · rename_i q
      refine List.pairwise_cons.2 ⟨fun x hx => ?_, (ins_ok hi (ok_tail h) (fun p => hn (by simp [p]))).1⟩
      rcases (mem_ins i x X).1 hx with p | p
      · omega
      · exact ok_head h x p
    · rename_i q
      have hne : a ≠ i := fun e => hn (by simp [e])
      refine List.pairwise_cons.2 ⟨fun x hx => ?_, h.1⟩
      rcases List.mem_cons.1 hx with p | p
      · omega
      · have := ok_head h x p; omega
theorem with_ok {X : List Int} (h : Ok X) (i : Int) : Ok (withL X i) := by
  unfold withL
  split
  · rename_i q; exact ins_ok q.1 h q.2
  · exact h
theorem mem_with (X : List Int) (i x : Int) : x ∈ withL X i ↔ x ∈ X ∨ (x = i ∧ adm i) := by
  unfold withL
  by_cases q : adm i ∧ i ∉ X
  · rw [if_pos q, mem_ins]
    exact ⟨fun h => h.elim (fun e => .inr ⟨e, q.1⟩) .inl, fun h => h.elim .inr fun e => .inl e.1⟩
  · rw [if_neg q]
    refine ⟨.inl, fun h => h.elim id fun e => ?_⟩
    rcases Classical.em (i ∈ X) with p | p
    · rw [e.1]; exact p
    · exact absurd ⟨e.2, p⟩ q
theorem with_len (X : List Int) (i : Int) : (withL X i).length = X.length + if adm i ∧ i ∉ X then 1 else 0 := by
  unfold withL
  split
  · rw [ins_len]
  · rfl
theorem without_ok {X : List Int} (h : Ok X) (i : Int) : Ok (withoutL X i) := ok_sub h List.filter_sublist
theorem mem_without (X : List Int) (i x : Int) : x ∈ withoutL X i ↔ x ∈ X ∧ x ≠ i := by simp [withoutL]
theorem fold_ok : ∀ (l X : List Int), Ok X → Ok (l.foldl withL X)
  | [], _, h => h
  | i :: l, _, h => fold_ok l _ (with_ok h i)
theorem mem_fold : ∀ (l : List Int) (X : List Int) (x : Int), x ∈ l.foldl withL X ↔ x ∈ X ∨ (x ∈ l ∧ adm x)
  | [], _, _ => by simp
  | i :: l, X, x => by
    rw [List.foldl_cons, mem_fold l, mem_with, List.mem_cons]
    constructor
    · rintro ((q | ⟨rfl, q⟩) | ⟨q, p⟩)
      · exact .inl q
      · exact .inr ⟨.inl rfl, q⟩
      · exact .inr ⟨.inr q, p⟩
    · rintro (q | ⟨rfl | q, p⟩)
      · exact .inl (.inl q)
      · exact .inl (.inr ⟨rfl, p⟩)
      · exact .inr ⟨q, p⟩
theorem of_ok (l : List Int) : Ok (ofL l) := fold_ok l [] ok_nil
theorem mem_of (l : List Int) (x : Int) : x ∈ ofL l ↔ x ∈ l ∧ adm x := by
  unfold ofL
  rw [mem_fold]
  simp
theorem or_ok {X : List Int} (h : Ok X) (Y : List Int) : Ok (orL X Y) := fold_ok Y X h
theorem mem_or {X Y : List Int} (hY : Ok Y) (x : Int) : x ∈ orL X Y ↔ x ∈ X ∨ x ∈ Y := by
  unfold orL
  rw [mem_fold]
  exact ⟨fun h => h.elim .inl fun q => .inr q.1, fun h => h.elim .inl fun q => .inr ⟨q, hY.2 x q⟩⟩
theorem mem_upto (n x : Int) : x ∈ uptoL n ↔ 0 ≤ x ∧ x < n ∧ x < 65536 := by
  unfold uptoL cut
  rw [List.mem_map]
  constructor
  · rintro ⟨k, hk, rfl⟩
    rw [List.mem_range] at hk
    omega
  · intro h
    exact ⟨x.toNat, by rw [List.mem_range]; omega, by omega⟩
theorem upto_ok (n : Int) : Ok (uptoL n) := by
  refine ⟨?_, fun x hx => ?_⟩
  · unfold uptoL
    rw [List.pairwise_map]
    exact List.Pairwise.imp (fun {a b} h => by omega) List.pairwise_lt_range
  · have := (mem_upto n x).1 hx
    exact ⟨this.1, this.2.2⟩
theorem and_ok {X : List Int} (h : Ok X) (Y : List Int) : Ok (andL X Y) := ok_sub h List.filter_sublist
theorem mem_and (X Y : List Int) (x : Int) : x ∈ andL X Y ↔ x ∈ X ∧ x ∈ Y := by simp [andL]
theorem not_ok (X : List Int) (n : Int) : Ok (notL X n) := ok_sub (upto_ok n) List.filter_sublist
theorem mem_not (X : List Int) (n x : Int) : x ∈ notL X n ↔ (0 ≤ x ∧ x < n ∧ x < 65536) ∧ x ∉ X := by
  unfold notL
  rw [List.mem_filter, mem_upto]
  simp
theorem parts (p : Int → Bool) : ∀ l : List Int, l.length = (l.filter p).length + (l.filter fun x => !p x).length
  | [] => rfl
  | a :: l => by
    have := parts p l
    rw [List.filter_cons, List.filter_cons]
    by_cases q : p a = true
    · simp [q]; omega
    · simp [q]; omega
/-- The counts of two sets. -/
theorem fold_len : ∀ {Y : List Int} (_ : Y.Nodup) (_ : ∀ y ∈ Y, adm y) (X : List Int), (Y.foldl withL X).length = X.length + (Y.filter fun y => decide (y ∉ X)).length
  | [], _, _, X => by simp
  | y :: Y, hn, ha, X => by
    rw [List.nodup_cons] at hn
    rw [List.foldl_cons, fold_len hn.2 (fun z hz => ha z (by simp [hz])), with_len]
    have hf : (Y.filter fun z => decide (z ∉ withL X y)) = Y.filter fun z => decide (z ∉ X) := by
      refine List.filter_congr fun z hz => ?_
      have hzy : z ≠ y := fun e => hn.1 (by rw [← e]; exact hz)
      have : z ∈ withL X y ↔ z ∈ X := by rw [mem_with]; exact ⟨fun h => h.elim id fun e => absurd e.1 hzy, .inl⟩
      simp [this]
    rw [hf, List.filter_cons]
    by_cases q : y ∈ X
    · simp [q]
    · simp [q, ha y (by simp)]
      omega
theorem len_or {X Y : List Int} (hX : Ok X) (hY : Ok Y) : (andL X Y).length + (orL X Y).length = X.length + Y.length := by
  have h1 : andL X Y = Y.filter fun y => decide (y ∈ X) := ok_ext (and_ok hX Y) (ok_sub hY List.filter_sublist) fun x => by rw [mem_and, List.mem_filter]; simp [and_comm]
  have h2 := fold_len (ok_nodup hY) hY.2 X
  unfold orL
  rw [h2, h1]
  have h3 := parts (fun y => decide (y ∈ X)) Y
  have h4 : (Y.filter fun y => !decide (y ∈ X)) = Y.filter fun y => decide (y ∉ X) := List.filter_congr fun z _ => by simp
  rw [h4] at h3
  omega
theorem not_and {X Y : List Int} (n : Int) : notL (andL X Y) n = orL (notL X n) (notL Y n) :=
  ok_ext (not_ok _ _) (or_ok (not_ok _ _) _) fun x => by
    rw [mem_not, mem_and, mem_or (not_ok _ _), mem_not, mem_not]
    constructor
    · rintro ⟨h, q⟩
      by_cases p : x ∈ X
      · exact .inr ⟨h, fun r => q ⟨p, r⟩⟩
      · exact .inl ⟨h, p⟩
    · rintro (⟨h, q⟩ | ⟨h, q⟩)
      · exact ⟨h, fun p => q p.1⟩
      · exact ⟨h, fun p => q p.2⟩
theorem not_or {X Y : List Int} (hY : Ok Y) (n : Int) : notL (orL X Y) n = andL (notL X n) (notL Y n) :=
  ok_ext (not_ok _ _) (and_ok (not_ok _ _) _) fun x => by
    rw [mem_not, mem_or hY, mem_and, mem_not, mem_not]
    exact ⟨fun ⟨h, q⟩ => ⟨⟨h, fun p => q (.inl p)⟩, h, fun p => q (.inr p)⟩, fun ⟨⟨h, q⟩, _, p⟩ => ⟨h, fun r => r.elim q p⟩⟩
theorem spread {X Y Z : List Int} (hX : Ok X) (hZ : Ok Z) : andL X (orL Y Z) = orL (andL X Y) (andL X Z) :=
  ok_ext (and_ok hX _) (or_ok (and_ok hX _) _) fun x => by
    rw [mem_and, mem_or hZ, mem_or (and_ok hX _), mem_and, mem_and]
    exact ⟨fun ⟨h, q⟩ => q.elim (fun p => .inl ⟨h, p⟩) fun p => .inr ⟨h, p⟩, fun q => q.elim (fun p => ⟨p.1, .inl p.2⟩) fun p => ⟨p.1, .inr p.2⟩⟩
theorem twice {X : List Int} (hX : Ok X) (n : Int) : notL (notL X n) n = andL X (uptoL n) :=
  ok_ext (not_ok _ _) (and_ok hX _) fun x => by
    rw [mem_not, mem_not, mem_and, mem_upto]
    exact ⟨fun ⟨h, q⟩ => ⟨Classical.byContradiction fun p => q ⟨h, p⟩, h⟩, fun ⟨h, q⟩ => ⟨q, fun p => p.2 h⟩⟩
theorem apart (X : List Int) (n : Int) : andL (notL X n) X = [] := by
  unfold andL
  rw [List.filter_eq_nil_iff]
  intro x hx
  have := ((mem_not X n x).1 hx).2
  simpa using this
theorem or_nil {X : List Int} (hX : Ok X) : orL [] X = X := ok_ext (or_ok ok_nil _) hX fun x => by rw [mem_or hX]; simp
theorem and_nil (X : List Int) : andL [] X = [] := rfl
theorem without_len {X : List Int} (hX : Ok X) (i : Int) : (withoutL X i).length + (if i ∈ X then 1 else 0) = X.length := by
  have h := parts (fun x => decide (x ≠ i)) X
  have h1 : (X.filter fun x => !decide (x ≠ i)).length = if i ∈ X then 1 else 0 := by
    have e : (X.filter fun x => !decide (x ≠ i)) = X.filter fun x => x == i := List.filter_congr fun z _ => by by_cases q : z = i <;> simp [q]
    rw [e]
    have := List.Nodup.count (a := i) (ok_nodup hX)
    rw [← this, List.count_eq_length_filter]
  unfold withoutL
  omega
end Bs
end Go.Proofs.YtnhgijlhnamolaaDoor
namespace Go.Proofs.YtnhgijlhnamolaaDoor
set_option maxRecDepth 20000
namespace Co
open Va (Vl May ord null)
open Sc (tr tr_yes tr_no tr_iff)
open Dc
theorem all_set {l : List Int} {k : Nat} (hk : k ≤ 65536) (h : ∀ x ∈ l, 0 ≤ x ∧ x < 65536) : Bs.ofL l = Bs.uptoL (k : Int) ↔ (∀ x ∈ l, x < (k : Int)) ∧ ∀ j : Nat, j < k → (j : Int) ∈ l := by
  constructor
  · intro e
    refine ⟨fun x hx => ?_, fun j hj => ?_⟩
    · have h1 : x ∈ Bs.ofL l := (Bs.mem_of l x).2 ⟨hx, h x hx⟩
      rw [e] at h1
      exact ((Bs.mem_upto _ _).1 h1).2.1
    · have h1 : (j : Int) ∈ Bs.uptoL (k : Int) := (Bs.mem_upto _ _).2 ⟨by omega, by omega, by omega⟩
      rw [← e] at h1
      exact ((Bs.mem_of l _).1 h1).1
  · rintro ⟨h1, h2⟩
    refine Bs.ok_ext (Bs.of_ok l) (Bs.upto_ok _) fun x => ?_
    rw [Bs.mem_of, Bs.mem_upto]
    constructor
    · rintro ⟨a, b⟩
      exact ⟨b.1, h1 x a, b.2⟩
    · rintro ⟨a, b, c⟩
      have := h2 x.toNat (by omega)
      rw [Int.toNat_of_nonneg a] at this
      exact ⟨this, a, c⟩
theorem un_lt (C : Col) (hd : C.dict.length ≤ 1000) : ∀ x ∈ un C, 0 ≤ x ∧ x < 65536 := by
  intro x hx
  unfold un Bc.unL at hx
  split at hx
  · have h1 := Bt.toD_inR _ _ _ x hx
    have h2 : wdt C.dict ≤ 10 := (Bc.wid_le 10 ((C.dict.length : Int) - 1)).2 (by simp; omega)
    rw [Int.toNat_natCast] at h1
    have h3 := Bt.pup h2
    rw [show (2 : Int) ^ 10 = 1024 by decide] at h3
    exact ⟨h1.1, by omega⟩
  · cases hx
/-- What unpack looks at. -/
theorem valid_iff {C : Col} (hd : C.dict.length ≤ 1000) : Valid C ↔ Ris C.dict ∧ Bc.unE C.ids C.n (wdt C.dict) = 0 ∧ Bs.ofL (un C) = Bs.uptoL (C.dict.length : Int) := by
  rw [all_set (by omega) (un_lt C hd)]
  constructor
  · intro h
    exact ⟨h.ris, h.un0, h.lt, h.all⟩
  · rintro ⟨h1, h2, h3, h4⟩
    obtain ⟨N, W, hn, _, _, hN, _⟩ := Bc.unE_inv h2
    exact ⟨by omega, by omega, h1, h2, h3, h4⟩
theorem nums_4096 (C : Col) : (nums C).length ≤ 4096 := by
  by_cases h : Valid C
  · have h1 := nums_len h
    have h2 := h.n1
    omega
  · rw [nums_no h]
    simp
theorem mem_rng {C : Col} {lo hi x : Int} : x ∈ rng C lo hi ↔ ∃ k : Nat, x = (k : Int) ∧ k < (nums C).length ∧ lo ≤ (nums C).getD k 0 ∧ (nums C).getD k 0 < hi := by
  unfold rng
  simp only [List.mem_map, List.mem_filter, List.mem_range, decide_eq_true_eq]
  constructor
  · rintro ⟨k, ⟨h1, h2, h3⟩, rfl⟩
    exact ⟨k, rfl, h1, h2, h3⟩
  · rintro ⟨k, rfl, h1, h2, h3⟩
    exact ⟨k, ⟨h1, h2, h3⟩, rfl⟩
theorem rng_ok (C : Col) (lo hi : Int) : Bs.Ok (rng C lo hi) := by
  refine ⟨?_, fun x hx => ?_⟩
  · unfold rng
    rw [List.pairwise_map]
    refine List.Pairwise.imp (fun {a b} h => ?_) ((List.pairwise_lt_range (n := (nums C).length)).sublist List.filter_sublist)
    omega
  · obtain ⟨k, rfl, h1, _⟩ := mem_rng.1 hx
    have := nums_4096 C
    exact ⟨by omega, by omega⟩
theorem of_rng (C : Col) (lo hi : Int) : Bs.ofL (rng C lo hi) = rng C lo hi :=
  Bs.ok_ext (Bs.of_ok _) (rng_ok C lo hi) fun x => by
    rw [Bs.mem_of]
    exact ⟨fun h => h.1, fun h => ⟨h, (rng_ok C lo hi).2 x h⟩⟩
theorem rng_no {C : Col} (h : ¬ Valid C) (lo hi : Int) : rng C lo hi = [] := by
  unfold rng
  rw [nums_no h]
  rfl
theorem values_no {C : Col} (h : ¬ Valid C) : values C = [] := by
  unfold values
  rw [nums_no h]
  rfl
end Co
end Go.Proofs.YtnhgijlhnamolaaDoor
namespace Go.Proofs.YtnhgijlhnamolaaDoor
set_option maxRecDepth 20000
open Go.RowKit
namespace Vc
open Va
/-- A value as the program holds it. -/
def ownI (k i : Int) : Int := if k = 1 then i else 0
def ownS (k : Int) (s : ByteArray) : ByteArray := if k = 2 then s else ⟨#[]⟩
def ownB (k : Int) (b : Bool) : Bool := if k = 3 then b else false

theorem res_cell1 {fn : Func} {p : Tmp} {ty : TypeId} (h : fn.results = #[.cell p ty]) (tmps : Array Value) (P : Program) (w : World) :
    (results fn tmps).run P w = ((asAddr (tmps.getD p undef)).run P w).andThen fun a w₁ => (loadVar ty a).run P w₁ := by
  simp only [results, h]
  simp [Sem.run_bind, Result.andThen]
theorem res_cell3 {fn : Func} {p u v : Tmp} {ty : TypeId} (h : fn.results = #[.cell p ty, .tmp u, .tmp v]) (tmps : Array Value) (P : Program) (w : World) :
    (results fn tmps).run P w = ((asAddr (tmps.getD p undef)).run P w).andThen fun a w₁ => ((loadVar ty a).run P w₁).andThen fun x w₂ => .ok (.tuple #[x, tmps.getD u undef, tmps.getD v undef]) w₂ := by
  simp only [results, h]
  simp [Sem.run_bind, Result.andThen]

theorem own_any (k i : Int) (s : ByteArray) (b : Bool) (w : World) :
    Calls Tryd.prog 81 #[.agg #[.int .i64 k, .int .i64 i, .string s, .bool b]] w fun e w' => e = .returned (.agg #[.int .i64 k, .int .i64 (ownI k i), .string (ownS k s), .bool (ownB k b)]) ∧ Below w.heap.size w w' := by
  unfold ownI ownS ownB
  by_cases h1 : k = 1
  · subst h1
    go_enter Tryd.func81, Tryd.ntmps81
    go_wp2_with fail
    (try simp only [Exit.inBlock, Exit.then])
    refine bodyPost_ret (v := .agg #[.int .i64 1, .int .i64 i, .string ⟨#[]⟩, .bool false]) ?_ rfl ⟨rfl, ?_⟩
    · rw [res_cell1 rfl]; go_simp
    · repeat' (first | exact Below.refl _ _ | refine Below.setCell ?_ (by simp) _ | refine Below.alloc ?_ (by simp <;> omega) _)
  by_cases h2 : k = 2
  · subst h2
    go_enter Tryd.func81, Tryd.ntmps81
    go_wp2_with fail
    (try simp only [Exit.inBlock, Exit.then])
    refine bodyPost_ret (v := .agg #[.int .i64 2, .int .i64 0, .string s, .bool false]) ?_ rfl ⟨rfl, ?_⟩
    · rw [res_cell1 rfl]; go_simp
    · repeat' (first | exact Below.refl _ _ | refine Below.setCell ?_ (by simp) _ | refine Below.alloc ?_ (by simp <;> omega) _)
  by_cases h3 : k = 3
  · subst h3
    go_enter Tryd.func81, Tryd.ntmps81
    go_wp2_with fail
    (try simp only [Exit.inBlock, Exit.then])
    refine bodyPost_ret (v := .agg #[.int .i64 3, .int .i64 0, .string ⟨#[]⟩, .bool b]) ?_ rfl ⟨rfl, ?_⟩
    · rw [res_cell1 rfl]; go_simp
    · repeat' (first | exact Below.refl _ _ | refine Below.setCell ?_ (by simp) _ | refine Below.alloc ?_ (by simp <;> omega) _)
  rw [if_neg h1, if_neg h2, if_neg h3]
  have q1 : (k == 1) = false := by simpa using h1
  have q2 : (k == 2) = false := by simpa using h2
  have q3 : (k == 3) = false := by simpa using h3
  go_enter Tryd.func81, Tryd.ntmps81
  go_wp2_with fail
  (try simp only [Exit.inBlock, Exit.then])
  refine bodyPost_ret (v := .agg #[.int .i64 k, .int .i64 0, .string ⟨#[]⟩, .bool false]) ?_ rfl ⟨rfl, ?_⟩
  · rw [res_cell1 rfl]; go_simp
  · repeat' (first | exact Below.refl _ _ | refine Below.setCell ?_ (by simp) _ | refine Below.alloc ?_ (by simp <;> omega) _)
/-- The byte of a truth. -/
def dg (b : Bool) : Int := if b then 1 else 0
theorem digit_any (b : Bool) (w : World) :
    Calls Tryd.prog 65 #[.bool b] w fun e w' => e = .returned (.int .u8 (dg b)) ∧ w' = w := by
  cases b
  · go_enter Tryd.func65, Tryd.ntmps65
    go_wp2_with fail
    go_ret
    exact ⟨rfl, rfl⟩
  · go_enter Tryd.func65, Tryd.ntmps65
    go_wp2_with fail
    go_ret
    exact ⟨rfl, rfl⟩
/-- A value's block. -/
def Vb (w : World) (g : Nat) (k i : Int) (s : ByteArray) (b : Bool) : Prop := Wd.Bx w g 48 #[.int .i64 k, .int .i64 i, .string s, .bool b]
theorem four {w : World} {g : Nat} {k i : Int} {s : ByteArray} {b : Bool} (h : Vb w g k i s b) :
    (w.cell? ⟨g, 0, none⟩ = some (.int .i64 k) ∧ w.cell? ⟨g, 1, none⟩ = some (.int .i64 i) ∧ w.cell? ⟨g, 2, none⟩ = some (.string s) ∧ w.cell? ⟨g, 3, none⟩ = some (.bool b))
    ∧ (w.frozen? ⟨g, 0, none⟩ = false ∧ w.frozen? ⟨g, 1, none⟩ = false ∧ w.frozen? ⟨g, 2, none⟩ = false ∧ w.frozen? ⟨g, 3, none⟩ = false) :=
  ⟨⟨(Wd.Bx.cell h 0).trans rfl, (Wd.Bx.cell h 1).trans rfl, (Wd.Bx.cell h 2).trans rfl, (Wd.Bx.cell h 3).trans rfl⟩, Wd.Bx.free h 0, Wd.Bx.free h 1, Wd.Bx.free h 2, Wd.Bx.free h 3⟩
/-- A value's block is written whole. -/
def setV (w : World) (g : Nat) (k i : Int) (s : ByteArray) (b : Bool) : World := (((w.setCell ⟨g, 0, none⟩ (.int .i64 k)).setCell ⟨g, 1, none⟩ (.int .i64 i)).setCell ⟨g, 2, none⟩ (.string s)).setCell ⟨g, 3, none⟩ (.bool b)
theorem Vb.set {w : World} {g : Nat} {k i k' i' : Int} {s s' : ByteArray} {b b' : Bool} (h : Vb w g k i s b) : Vb (setV w g k' i' s' b') g k' i' s' b' := by
  have h1 := heap_setCell_same w g 0 _ _ (.int .i64 k') h
  have h2 := heap_setCell_same _ g 1 _ _ (.int .i64 i') h1
  have h3 := heap_setCell_same _ g 2 _ _ (.string s') h2
  have h4 := heap_setCell_same _ g 3 _ _ (.bool b') h3
  exact h4
theorem Vb.other {w : World} {g g' : Nat} {k i k' i' : Int} {s s' : ByteArray} {b b' : Bool} (h : Vb w g k i s b) (hg : g ≠ g') : Vb (setV w g' k' i' s' b') g k i s b := by
  unfold Vb Wd.Bx setV
  rw [heap_setCell_other _ _ _ _ hg, heap_setCell_other _ _ _ _ hg, heap_setCell_other _ _ _ _ hg, heap_setCell_other _ _ _ _ hg]
  exact h
theorem below_setV {B : Nat} {w w' : World} {g : Nat} {k i : Int} {s : ByteArray} {b : Bool} (h : Below B w w') (hg : B ≤ g) : Below B w (setV w' g k i s b) :=
  (((h.setCell hg _).setCell hg _).setCell hg _).setCell hg _

end Vc
end Go.Proofs.YtnhgijlhnamolaaDoor
