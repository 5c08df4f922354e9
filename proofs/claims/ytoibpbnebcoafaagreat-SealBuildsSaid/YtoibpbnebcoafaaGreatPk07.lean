/- Sealed columns as plain data: which may be, what is built, what they tell. No program, no memory. Sealed segments as plain data: the order of rows, what is built, which may be, what they tell. No program, no memory. What is sealed may be, and has the rows that were handed in. No program, no memory. -/
import Derived.Test.YtoibpbnebcoafaaGreatPk03
import Derived.Test.YtoibpbnebcoafaaGreatPk06
import Derived.Test.YtoibpbnebcoafaaGreatPk04
import Derived.Test.YtoibpbnebcoafaaGreatPk01
import Derived.Test.YtoibpbnebcoafaaGreatPk05
namespace Go.Proofs.YtoibpbnebcoafaaGreat
set_option maxRecDepth 20000
namespace Co
open Va (Vl May ord null)
open Sc (tr tr_yes tr_no tr_iff)
open Dc
/-- A column: how many rows, their values, the packed numbers. -/
structure Col where
  n : Int
  dict : List Vl
  ids : List Int
theorem Col.ext' {a b : Col} (h1 : a.n = b.n) (h2 : a.dict = b.dict) (h3 : a.ids = b.ids) : a = b := by
  cases a; cases b; simp_all
def none_ : Col := ⟨0, [], []⟩
/-- How wide the numbers are. -/
def wdt (D : List Vl) : Nat := Bc.wid ((D.length : Int) - 1)
/-- The numbers as they are unpacked. -/
def un (C : Col) : List Int := Bc.unL C.ids C.n (wdt C.dict)
/-- It may be. -/
structure Valid (C : Col) : Prop where
  n0 : 0 ≤ C.n
  n1 : C.n ≤ 4096
  ris : Ris C.dict
  un0 : Bc.unE C.ids C.n (wdt C.dict) = 0
  lt : ∀ x ∈ un C, x < (C.dict.length : Int)
  all : ∀ k, k < C.dict.length → (k : Int) ∈ un C
/-- The rows' numbers; none, if it may not be. -/
noncomputable def nums (C : Col) : List Int := if tr (Valid C) = true then un C else []
theorem nums_yes {C : Col} (h : Valid C) : nums C = un C := by unfold nums; rw [if_pos (tr_yes h)]
theorem nums_no {C : Col} (h : ¬ Valid C) : nums C = [] := by unfold nums; rw [tr_no h]; rfl
theorem un_bd (C : Col) : ∀ x ∈ un C, 0 ≤ x := by
  unfold un Bc.unL
  split
  · intro x hx
    exact (Bt.toD_inR _ _ _ x hx).1
  · intro x hx
    cases hx
theorem nums_in {C : Col} {x : Int} (h : x ∈ nums C) : Valid C ∧ 0 ≤ x ∧ x < (C.dict.length : Int) := by
  by_cases hv : Valid C
  · rw [nums_yes hv] at h
    exact ⟨hv, un_bd C x h, hv.lt x h⟩
  · rw [nums_no hv] at h
    cases h
theorem un_len {C : Col} (h : Bc.unE C.ids C.n (wdt C.dict) = 0) : ((un C).length : Int) = C.n := by
  obtain ⟨N, W, hn, hw, _⟩ := Bc.unE_inv h
  unfold un Bc.unL
  rw [if_pos h, Bt.toD_len, hn, Int.toNat_natCast]
theorem nums_len {C : Col} (h : Valid C) : ((nums C).length : Int) = C.n := by rw [nums_yes h]; exact un_len h.un0
/-- The values of the rows. -/
noncomputable def values (C : Col) : List Vl := (nums C).map fun x => C.dict.getD x.toNat default
theorem values_len (C : Col) : (values C).length = (nums C).length := by simp [values]
/-- The rows whose numbers are from lo on and below hi. -/
noncomputable def rng (C : Col) (lo hi : Int) : List Int := ((List.range (nums C).length).filter fun i => decide (lo ≤ (nums C).getD i 0 ∧ (nums C).getD i 0 < hi)).map fun (i : Nat) => (i : Int)
/-- The values, each once, sorted. -/
noncomputable def dct (l : List Vl) : List Vl := srt (adds 4096 [] l)
noncomputable def ids (l : List Vl) : List Int := l.map (fnd (dct l))
/-- What is built, and the error. -/
noncomputable def build (l : List Vl) : Col × Int :=
  if 4096 < l.length then (none_, 2) else if tr (∀ v ∈ l, May v) = true then (⟨l.length, dct l, Bc.packL (ids l) (wdt (dct l))⟩, 0) else (none_, 1)
theorem build_long {l : List Vl} (h : 4096 < l.length) : build l = (none_, 2) := if_pos h
theorem build_bad {l : List Vl} (h : l.length ≤ 4096) (hb : ¬ ∀ v ∈ l, May v) : build l = (none_, 1) := by unfold build; rw [if_neg (by omega), tr_no hb]; rfl
theorem build_ok {l : List Vl} (h : l.length ≤ 4096) (hm : ∀ v ∈ l, May v) : build l = (⟨l.length, dct l, Bc.packL (ids l) (wdt (dct l))⟩, 0) := by unfold build; rw [if_neg (by omega), if_pos (tr_yes hm)]
section
variable {l : List Vl} (h : l.length ≤ 4096) (hm : ∀ v ∈ l, May v)
include h hm
theorem dct_mem (x : Vl) : x ∈ dct l ↔ x ∈ l := by
  unfold dct
  rw [srt_mem, adds_mem l (by unfold lim; simp; omega)]
  constructor
  · rintro (q | q)
    · cases q
    · exact q.1
  · exact fun q => .inr ⟨q, hm x q⟩
omit h hm in
theorem dct_dis : Dis (adds 4096 [] l) 4096 := dis_adds l (dis_nil 4096)
omit h hm in
theorem dct_ris : Ris (dct l) := srt_ris (dct_dis (l := l)).may (dct_dis (l := l)).nd
omit h hm in
theorem dct_len : (dct l).length ≤ l.length := by
  unfold dct
  rw [srt_len]
  have := adds_len 4096 [] l
  simpa using this
theorem ids_at {i : Nat} (hi : i < l.length) : ∃ k : Nat, (ids l).getD i 0 = (k : Int) ∧ (dct l)[k]? = some (l.getD i default) := by
  have hmem : l.getD i default ∈ l := by
    rw [List.getD_eq_getElem?_getD, List.getElem?_eq_getElem hi]
    exact List.getElem_mem hi
  obtain ⟨k, h1, h2, _⟩ := fnd_some ((dct_mem h hm _).2 hmem)
  refine ⟨k, ?_, h2⟩
  unfold ids
  rw [List.getD_eq_getElem?_getD, List.getElem?_map, List.getElem?_eq_getElem hi, ← h1, List.getD_eq_getElem?_getD, List.getElem?_eq_getElem hi]
  rfl
omit h hm in
theorem ids_len : (ids l).length = l.length := by simp [ids]
theorem ids_lt : ∀ x ∈ ids l, 0 ≤ x ∧ x < ((dct l).length : Int) := by
  intro x hx
  obtain ⟨i, hi, e⟩ := List.getElem_of_mem hx
  have hil : i < l.length := by rw [ids_len] at hi; exact hi
  obtain ⟨k, h1, h2⟩ := ids_at h hm hil
  rw [List.getD_eq_getElem?_getD, List.getElem?_eq_getElem hi, Option.getD_some, e] at h1
  have := (List.getElem?_eq_some_iff.1 h2).1
  omega
omit hm in
theorem wdt_le : wdt (dct l) ≤ 62 := by
  have h1 := dct_len (l := l)
  have := (Bc.wid_le 12 (((dct l).length : Int) - 1)).2 (by simp; omega)
  unfold wdt
  omega
theorem ids_in : Bt.InR (wdt (dct l)) (ids l) := by
  intro x hx
  obtain ⟨h0, h1⟩ := ids_lt h hm x hx
  have := (Bc.wid_le (wdt (dct l)) (((dct l).length : Int) - 1)).1 (Nat.le_refl _)
  exact ⟨h0, by omega⟩
theorem un_build : un (build l).1 = ids l := by
  rw [build_ok h hm]
  unfold un
  show Bc.unL (Bc.packL (ids l) (wdt (dct l))) (l.length : Int) (wdt (dct l)) = ids l
  have := Bc.un_packL (wdt_le h) (by rw [ids_len]; exact h) (ids_in h hm)
  rwa [ids_len] at this
theorem valid_build : Valid (build l).1 := by
  have e := un_build h hm
  rw [build_ok h hm] at e ⊢
  refine ⟨by simp, by simp; omega, (dct_ris (l := l)), ?_, fun x hx => ?_, fun k hk => ?_⟩
  · have := Bc.un_packE (wdt_le h) (by rw [ids_len]; exact h) (ids_in h hm)
    rwa [ids_len] at this
  · rw [e] at hx
    exact (ids_lt h hm x hx).2
  · rw [e]
    have hk' : k < (dct l).length := hk
    have hmem := (dct_mem h hm _).1 (List.getElem_mem hk')
    obtain ⟨i, hi, ei⟩ := List.getElem_of_mem hmem
    have hx : fnd (dct l) (dct l)[k] = (k : Int) := fnd_at (up_nodup ((dct_ris (l := l))).2) (List.getElem?_eq_getElem hk')
    unfold ids
    exact List.mem_map.2 ⟨_, hmem, hx⟩
theorem nums_build : nums (build l).1 = ids l := by rw [nums_yes (valid_build h hm), un_build h hm]
theorem values_build : values (build l).1 = l := by
  unfold values
  rw [nums_build h hm]
  have hd : (build l).1.dict = dct l := by rw [build_ok h hm]
  rw [hd]
  refine List.ext_getElem (by simp [ids_len]) fun i h1 h2 => ?_
  obtain ⟨k, e1, e2⟩ := ids_at h hm h2
  have h3 : i < (ids l).length := by rw [ids_len]; exact h2
  rw [List.getD_eq_getElem?_getD, List.getElem?_eq_getElem h3, Option.getD_some] at e1
  rw [List.getElem_map, e1, Int.toNat_natCast, List.getD_eq_getElem?_getD, e2, Option.getD_some, List.getD_eq_getElem?_getD, List.getElem?_eq_getElem h2]
  rfl
end
/-- Its bytes. -/
def putD (D : List Vl) : List Int := D.flatMap fun v => v.kind :: Va.put v
def puts (C : Col) : List Int := Nm.vd C.n ++ Nm.vd (C.dict.length : Int) ++ putD C.dict ++ C.ids
noncomputable def put (C : Col) : List Int × Int := if tr (Valid C) = true then (puts C, 0) else ([], 1)
theorem put_yes {C : Col} (h : Valid C) : put C = (puts C, 0) := by unfold put; rw [if_pos (tr_yes h)]
theorem put_no {C : Col} (h : ¬ Valid C) : put C = ([], 1) := by unfold put; rw [tr_no h]; rfl
/-- The first place whose value is not Null. -/
def fst1 (D : List Vl) : Nat := if (D.getD 0 default).kind = 0 ∧ 0 < D.length then 1 else 0
noncomputable def ends (C : Col) : Vl × Vl × Bool :=
  if tr (Valid C ∧ fst1 C.dict < C.dict.length) = true then (C.dict.getD (fst1 C.dict) default, C.dict.getD (C.dict.length - 1) default, true) else (null, null, false)
/-- The value of a row. -/
noncomputable def atv (C : Col) (i : Int) : Vl × Bool := if 0 ≤ i ∧ i < ((nums C).length : Int) then ((values C).getD i.toNat default, true) else (null, false)
end Co
end Go.Proofs.YtoibpbnebcoafaaGreat
namespace Go.Proofs.YtoibpbnebcoafaaGreat
set_option maxRecDepth 20000
namespace Se
open Va (Vl May ord null)
open Sc (Sch MayS FitS tr tr_yes tr_no tr_iff)
open Co (values build)
/-- A segment: its head, the offsets, the columns. -/
structure Seg where
  part : Int
  id : Int
  st : Int
  en : Int
  offs : List Int
  cols : List Co.Col
theorem Seg.ext' {a b : Seg} (h1 : a.part = b.part) (h2 : a.id = b.id) (h3 : a.st = b.st) (h4 : a.en = b.en) (h5 : a.offs = b.offs) (h6 : a.cols = b.cols) : a = b := by
  cases a; cases b; simp_all
def zero : Seg := ⟨0, 0, 0, 0, [], []⟩
/-- The value by which a row is sorted. -/
def ky (s : Sch) (r : List Vl) : Vl := r.getD s.sort.toNat default
/-- Which of two rows comes first; without a Sort column none. -/
def cm (s : Sch) (a b : List Vl) : Int := if s.sort = -1 then 0 else ord (ky s a) (ky s b)
def cf (s : Sch) (l : List (List Vl)) (x y : Nat) : Int := cm s (l.getD x []) (l.getD y [])
theorem cm_neg (s : Sch) (a b : List Vl) : cm s a b = -cm s b a := by
  unfold cm
  split
  · rfl
  · exact Va.ord_neg _ _
theorem cm_tr (s : Sch) {a b c : List Vl} (h : cm s a b ≤ 0) (k : cm s b c ≤ 0) : cm s a c ≤ 0 := by
  unfold cm at *
  split
  · omega
  · rename_i q
    rw [if_neg q] at h k
    exact Va.ord_le_trans h k
theorem wk (s : Sch) (l : List (List Vl)) : Ssm.Wk (cf s l) := ⟨fun _ _ => cm_neg s _ _, fun _ _ _ h k => cm_tr s h k⟩
/-- The rows' numbers, in the order in which they are sealed. -/
def arr (s : Sch) (l : List (List Vl)) : List Nat := Ssm.srt (cf s l) (List.range l.length)
theorem arr_perm (s : Sch) (l : List (List Vl)) : (arr s l).Perm (List.range l.length) := Ssm.srt_perm _ _
theorem arr_len (s : Sch) (l : List (List Vl)) : (arr s l).length = l.length := by unfold arr; rw [Ssm.srt_len, List.length_range]
theorem arr_mem (s : Sch) (l : List (List Vl)) {x : Nat} : x ∈ arr s l ↔ x < l.length := by unfold arr; rw [Ssm.srt_mem, List.mem_range]
theorem arr_so (s : Sch) (l : List (List Vl)) : Ssm.So (cf s l) (arr s l) := Ssm.srt_so (wk s l) _
theorem arr_nd (s : Sch) (l : List (List Vl)) : (arr s l).Nodup := (arr_perm s l).nodup_iff.2 List.nodup_range
/-- All rows fit a schema that may be. -/
def Fit (s : Sch) (l : List (List Vl)) : Prop := MayS s ∧ ∀ r ∈ l, FitS s r
noncomputable def order (s : Sch) (l : List (List Vl)) : List Nat := if tr (Fit s l) = true then arr s l else []
theorem order_yes {s : Sch} {l : List (List Vl)} (h : Fit s l) : order s l = arr s l := by unfold order; rw [if_pos (tr_yes h)]
theorem order_no {s : Sch} {l : List (List Vl)} (h : ¬ Fit s l) : order s l = [] := by unfold order; rw [tr_no h]; rfl
/-- The head is valid. -/
def Head (x : Seg) : Prop := 0 ≤ x.part ∧ x.part < 4 ∧ 1 ≤ x.id ∧ x.id ≤ 1073741824 ∧ 0 ≤ x.st ∧ x.st ≤ x.en ∧ x.en ≤ 1099511627776
/-- Strictly increasing, from lo on, below hi. -/
def Rise (lo hi : Int) : List Int → Prop
  | [] => True
  | o :: r => lo ≤ o ∧ o < hi ∧ Rise (o + 1) hi r
theorem rise_iff {hi : Int} : ∀ {lo : Int} {l : List Int}, Rise lo hi l ↔ l.Pairwise (· < ·) ∧ ∀ o ∈ l, lo ≤ o ∧ o < hi
  | lo, [] => by simp [Rise]
  | lo, o :: r => by
    rw [Rise, rise_iff (lo := o + 1) (l := r), List.pairwise_cons]
    constructor
    · rintro ⟨h1, h2, h3, h4⟩
      refine ⟨⟨fun x hx => by have := h4 x hx; omega, h3⟩, fun x hx => ?_⟩
      rcases List.mem_cons.1 hx with rfl | hx
      · exact ⟨h1, h2⟩
      · have := h4 x hx
        omega
    · rintro ⟨⟨h1, h2⟩, h3⟩
      have := h3 o (by simp)
      refine ⟨this.1, this.2, h2, fun x hx => ?_⟩
      have a := h1 x hx
      have b := h3 x (by simp [hx])
      omega
theorem rise_take {lo hi : Int} : ∀ {l : List Int} {k : Nat}, Rise lo hi l → Rise lo hi (l.take k) := fun {l k} h => by
  rw [rise_iff] at h ⊢
  exact ⟨h.1.sublist (List.take_sublist _ _), fun o ho => h.2 o (List.mem_of_mem_take ho)⟩
/-- The values of a column, in the given order. -/
def pick (l : List (List Vl)) (o : List Nat) (k : Nat) : List Vl := o.map fun i => (l.getD i []).getD k default
/-- The columns of the rows in the given order. -/
noncomputable def colsOf (n : Nat) (l : List (List Vl)) (o : List Nat) : List Co.Col := (List.range n).map fun k => (build (pick l o k)).1
theorem colsOf_len (n : Nat) (l : List (List Vl)) (o : List Nat) : (colsOf n l o).length = n := by simp [colsOf]
theorem colsOf_get {n : Nat} {l : List (List Vl)} {o : List Nat} {k : Nat} (h : k < n) : (colsOf n l o).getD k Co.none_ = (build (pick l o k)).1 := by
  unfold colsOf
  rw [List.getD_eq_getElem?_getD, List.getElem?_map, List.getElem?_range h]
  rfl
/-- The offsets in the given order. -/
def offsOf (offs : List Int) (o : List Nat) : List Int := o.map fun i => offs.getD i 0
noncomputable def sealed (s : Sch) (x : Seg) (l : List (List Vl)) (offs : List Int) : Seg := ⟨x.part, x.id, x.st, x.en, offsOf offs (arr s l), colsOf s.cols.length l (arr s l)⟩
/-- What may be sealed. -/
def Arg (s : Sch) (x : Seg) (l : List (List Vl)) (offs : List Int) : Prop := Fit s l ∧ Head x ∧ offs.length = l.length ∧ Rise x.st x.en offs
/-- What is built, the order, and the error. -/
noncomputable def bld (s : Sch) (x : Seg) (l : List (List Vl)) (offs : List Int) : Seg × List Nat × Int :=
  if tr (Arg s x l offs) = true then (if 4096 < l.length then (zero, [], 2) else (sealed s x l offs, arr s l, 0)) else (zero, [], 1)
theorem bld_bad {s : Sch} {x : Seg} {l : List (List Vl)} {offs : List Int} (h : ¬ Arg s x l offs) : bld s x l offs = (zero, [], 1) := by unfold bld; rw [tr_no h]; rfl
theorem bld_long {s : Sch} {x : Seg} {l : List (List Vl)} {offs : List Int} (h : Arg s x l offs) (h2 : 4096 < l.length) : bld s x l offs = (zero, [], 2) := by unfold bld; rw [if_pos (tr_yes h), if_pos h2]
theorem bld_ok {s : Sch} {x : Seg} {l : List (List Vl)} {offs : List Int} (h : Arg s x l offs) (h2 : l.length ≤ 4096) : bld s x l offs = (sealed s x l offs, arr s l, 0) := by unfold bld; rw [if_pos (tr_yes h), if_neg (by omega)]
/-- Row i has a value in each column. -/
def Has (x : Seg) (i : Int) : Prop := 0 ≤ i ∧ i < (x.offs.length : Int) ∧ ∀ c ∈ x.cols, i < ((values c).length : Int)
noncomputable def row (x : Seg) (i : Int) : List Vl := if tr (Has x i) = true then x.cols.map fun c => (values c).getD i.toNat default else []
noncomputable def rows (x : Seg) : List (List Vl) := (List.range x.offs.length).map fun (i : Nat) => row x (i : Int)
theorem row_yes {x : Seg} {i : Int} (h : Has x i) : row x i = x.cols.map fun c => (values c).getD i.toNat default := by unfold row; rw [if_pos (tr_yes h)]
theorem row_no {x : Seg} {i : Int} (h : ¬ Has x i) : row x i = [] := by unfold row; rw [tr_no h]; rfl
theorem rows_len (x : Seg) : (rows x).length = x.offs.length := by simp [rows]
theorem rows_get {x : Seg} {i : Nat} (h : i < x.offs.length) : (rows x).getD i [] = row x (i : Int) := by
  unfold rows
  rw [List.getD_eq_getElem?_getD, List.getElem?_map, List.getElem?_range h]
  rfl
/-- Of two neighbours the first comes first. -/
def Nb (s : Sch) (x : Seg) (i : Nat) : Prop := cf s (rows x) (i - 1) i < 0 ∨ (cf s (rows x) (i - 1) i = 0 ∧ x.offs.getD (i - 1) 0 < x.offs.getD i 0)
/-- It may be. -/
structure Ok (s : Sch) (x : Seg) : Prop where
  head : Head x
  num : x.cols.length = s.cols.length
  len : x.offs.length ≤ 4096
  cols : ∀ c ∈ x.cols, c.n = (x.offs.length : Int) ∧ Co.Valid c
  dis : x.offs.Nodup
  rng : ∀ o ∈ x.offs, x.st ≤ o ∧ o < x.en
  fit : Fit s (rows x)
  nb : ∀ i, 1 ≤ i → i < x.offs.length → Nb s x i
end Se
end Go.Proofs.YtoibpbnebcoafaaGreat
namespace Go.Proofs.YtoibpbnebcoafaaGreat
set_option maxRecDepth 20000
namespace Se
open Va (Vl May ord null)
open Sc (Sch MayS FitS tr tr_yes tr_no tr_iff)
open Co (values build)
theorem fit_may {s : Sch} {r : List Vl} (h : FitS s r) : r.length = s.cols.length ∧ ∀ v ∈ r, May v := by
  have h3 := (Sc.fits_get _ _).1 h.2
  refine ⟨h3.1, fun v hv => ?_⟩
  obtain ⟨j, hj, rfl⟩ := List.getElem_of_mem hv
  have := (h3.2 j (by omega)).1.1
  simpa [List.getD, List.getElem?_eq_getElem hj] using this
section
variable {s : Sch} {x : Seg} {l : List (List Vl)} {offs : List Int}
theorem get_mem {l : List (List Vl)} {i : Nat} (h : i < l.length) : l.getD i [] ∈ l := by
  rw [List.getD_eq_getElem?_getD, List.getElem?_eq_getElem h]
  exact List.getElem_mem h
theorem arr_lt {i : Nat} (h : i < l.length) : (arr s l).getD i 0 < l.length := by
  have h' : i < (arr s l).length := by rw [arr_len]; exact h
  refine (arr_mem s l).1 ?_
  rw [List.getD_eq_getElem?_getD, List.getElem?_eq_getElem h']
  exact List.getElem_mem h'
theorem pick_ok (hf : Fit s l) (k : Nat) (hk : k < s.cols.length) : ∀ v ∈ pick l (arr s l) k, May v := fun v hv => by
  obtain ⟨y, hy, rfl⟩ := List.mem_map.1 hv
  have hm := get_mem ((arr_mem s l).1 hy)
  obtain ⟨h1, h2⟩ := fit_may (hf.2 _ hm)
  refine h2 _ ?_
  rw [List.getD_eq_getElem?_getD (i := k), List.getElem?_eq_getElem (by omega)]
  exact List.getElem_mem _
theorem plen (k : Nat) : (pick l (arr s l) k).length = l.length := by simp [pick, arr_len]
theorem sealed_offs_len : (sealed s x l offs).offs.length = l.length := by simp [sealed, offsOf, arr_len]
theorem sealed_col {c : Co.Col} (h : c ∈ (sealed s x l offs).cols) : ∃ k, k < s.cols.length ∧ c = (build (pick l (arr s l) k)).1 := by
  obtain ⟨k, hk, rfl⟩ := List.mem_map.1 h
  exact ⟨k, List.mem_range.1 hk, rfl⟩
theorem sealed_offs {i : Nat} (h : i < l.length) : (sealed s x l offs).offs.getD i 0 = offs.getD ((arr s l).getD i 0) 0 := by
  have h' : i < (arr s l).length := by rw [arr_len]; exact h
  simp only [sealed, offsOf]
  rw [List.getD_eq_getElem?_getD, List.getElem?_map, List.getElem?_eq_getElem h', List.getD_eq_getElem?_getD (l := arr s l), List.getElem?_eq_getElem h']
  rfl
theorem sealed_row (hf : Fit s l) (hl : l.length ≤ 4096) {i : Nat} (h : i < l.length) : row (sealed s x l offs) (i : Int) = l.getD ((arr s l).getD i 0) [] := by
  have hv : ∀ k, k < s.cols.length → values (build (pick l (arr s l) k)).1 = pick l (arr s l) k := fun k hk => Co.values_build (by rw [plen]; exact hl) (pick_ok hf k hk)
  have hhas : Has (sealed s x l offs) (i : Int) := ⟨by omega, by rw [sealed_offs_len]; omega, fun c hc => by
    obtain ⟨k, hk, rfl⟩ := sealed_col hc
    rw [hv k hk, plen]
    omega⟩
  rw [row_yes hhas, Int.toNat_natCast]
  have hm := get_mem (arr_lt (s := s) h)
  obtain ⟨h1, -⟩ := fit_may (hf.2 _ hm)
  show ((List.range s.cols.length).map fun k => (build (pick l (arr s l) k)).1).map _ = _
  rw [List.map_map]
  refine List.ext_getElem (by rw [List.length_map, List.length_range, h1]) fun k q1 q2 => ?_
  have hk : k < s.cols.length := by simpa using q1
  have h' : i < (arr s l).length := by rw [arr_len]; exact h
  simp only [List.getElem_map, List.getElem_range, Function.comp]
  rw [hv k hk]
  have e : (pick l (arr s l) k).getD i default = (l.getD ((arr s l).getD i 0) []).getD k default := by
    unfold pick
    rw [List.getD_eq_getElem?_getD, List.getElem?_map, List.getElem?_eq_getElem h', List.getD_eq_getElem?_getD (l := arr s l), List.getElem?_eq_getElem h']
    rfl
  rw [e, List.getD_eq_getElem?_getD, List.getElem?_eq_getElem q2]
  rfl
theorem sealed_rows (hf : Fit s l) (hl : l.length ≤ 4096) : rows (sealed s x l offs) = (arr s l).map fun i => l.getD i [] := by
  refine List.ext_getElem (by rw [rows_len, sealed_offs_len, List.length_map, arr_len]) fun i q1 q2 => ?_
  have hi : i < l.length := by rw [rows_len, sealed_offs_len] at q1; exact q1
  have h' : i < (arr s l).length := by rw [arr_len]; exact hi
  have := rows_get (x := sealed s x l offs) (i := i) (by rw [sealed_offs_len]; exact hi)
  rw [sealed_row hf hl hi, List.getD_eq_getElem?_getD, List.getElem?_eq_getElem q1] at this
  rw [List.getElem_map, show (rows (sealed s x l offs))[i] = _ from this, List.getD_eq_getElem?_getD (l := arr s l), List.getElem?_eq_getElem h']
  rfl
theorem sealed_ok (h : Arg s x l offs) (hl : l.length ≤ 4096) : Ok s (sealed s x l offs) := by
  obtain ⟨hf, hh, ho, hr⟩ := h
  obtain ⟨r1, r2⟩ := rise_iff.1 hr
  have inj : ∀ i j, i < j → j < l.length → offs.getD i 0 < offs.getD j 0 := fun i j hij hj => by
    have hi' : i < offs.length := by omega
    have hj' : j < offs.length := by omega
    have := List.pairwise_iff_getElem.1 r1 i j hi' hj' hij
    simpa [List.getD, hi', hj'] using this
  have nd : ∀ i j, i < j → j < l.length → (arr s l).getD i 0 ≠ (arr s l).getD j 0 := fun i j hij hj => by
    have hi' : i < (arr s l).length := by rw [arr_len]; omega
    have hj' : j < (arr s l).length := by rw [arr_len]; omega
    have := List.pairwise_iff_getElem.1 (arr_nd s l) i j hi' hj' hij
    simpa [List.getD, hi', hj'] using this
  refine ⟨hh, by simp [sealed, colsOf_len], by rw [sealed_offs_len]; exact hl, fun c hc => ?_, ?_, fun o ho' => ?_, ?_, fun i h1 h2 => ?_⟩
  · obtain ⟨k, hk, rfl⟩ := sealed_col hc
    refine ⟨?_, Co.valid_build (by rw [plen]; exact hl) (pick_ok hf k hk)⟩
    rw [Co.build_ok (by rw [plen]; exact hl) (pick_ok hf k hk), sealed_offs_len]
    show ((pick l (arr s l) k).length : Int) = _
    rw [plen]
  · refine List.pairwise_iff_getElem.2 fun i j hi hj hij => ?_
    have e1 := sealed_offs (s := s) (x := x) (offs := offs) (i := i) (by rw [sealed_offs_len] at hi; exact hi)
    have e2 := sealed_offs (s := s) (x := x) (offs := offs) (i := j) (by rw [sealed_offs_len] at hj; exact hj)
    rw [List.getD_eq_getElem?_getD, List.getElem?_eq_getElem hi] at e1
    rw [List.getD_eq_getElem?_getD, List.getElem?_eq_getElem hj] at e2
    rw [show (sealed s x l offs).offs[i] = _ from e1, show (sealed s x l offs).offs[j] = _ from e2]
    rw [sealed_offs_len] at hi hj
    have n := nd i j hij hj
    have a1 := arr_lt (s := s) hi
    have a2 := arr_lt (s := s) hj
    rcases Nat.lt_or_gt_of_ne n with z | z
    · have := inj _ _ z a2; omega
    · have := inj _ _ z a1; omega
  · obtain ⟨i, hi, rfl⟩ := List.getElem_of_mem ho'
    have e1 := sealed_offs (s := s) (x := x) (offs := offs) (i := i) (by rw [sealed_offs_len] at hi; exact hi)
    rw [List.getD_eq_getElem?_getD, List.getElem?_eq_getElem hi] at e1
    rw [show (sealed s x l offs).offs[i] = _ from e1]
    rw [sealed_offs_len] at hi
    have a1 := arr_lt (s := s) hi
    refine r2 _ ?_
    rw [List.getD_eq_getElem?_getD, List.getElem?_eq_getElem (by omega)]
    exact List.getElem_mem _
  · refine ⟨hf.1, fun r hr => ?_⟩
    rw [sealed_rows hf hl] at hr
    obtain ⟨i, hi, rfl⟩ := List.mem_map.1 hr
    exact hf.2 _ (get_mem ((arr_mem s l).1 hi))
  · rw [sealed_offs_len] at h2
    have g1 := rows_get (x := sealed s x l offs) (i := i - 1) (by rw [sealed_offs_len]; omega)
    have g2 := rows_get (x := sealed s x l offs) (i := i) (by rw [sealed_offs_len]; omega)
    rw [sealed_row hf hl (by omega)] at g1
    rw [sealed_row hf hl h2] at g2
    unfold Nb cf
    rw [g1, g2, sealed_offs (by omega), sealed_offs h2]
    have a2 := arr_lt (s := s) h2
    have hle := Ssm.so_get (wk s l) (arr_so s l) (i := i - 1) (j := i) (by omega) (by rw [arr_len]; exact h2)
    have n := nd (i - 1) i (by omega) h2
    rcases hle with z | ⟨z, z2⟩
    · exact .inl z
    · exact .inr ⟨z, inj _ _ (by omega) a2⟩
end
end Se
end Go.Proofs.YtoibpbnebcoafaaGreat
