/- Words on memory: a slice of values (a kind, a number, a text, a truth); from an argument as the statement reads it to a value, and to a slice of such. Sealed columns as plain data: which may be, what is built, what they tell. No program, no memory. Sealed segments as plain data: the order of rows, and what goes with it. -/
import Derived.ProofKit
import Derived.OpenShut
import Derived.Deep.Slices
import Derived.Lib.SmallJoins
import Derived.Test.YtaoeipehpakngaaGreatDoorPb01
import Derived.Test.YtaoeipehpakngaaGreatDoorPb02
import Derived.Test.YtaoeipehpakngaaGreatDoorProg
import Derived.Test.YtaoeipehpakngaaGreatDoorPb03
namespace Go.Proofs.YtaoeipehpakngaaGreatDoor
set_option maxRecDepth 20000
open Go.RowKit Go.ChangeShapes Go.WideShapes
namespace Wd
open Va (Vl)
instance : Inhabited Vl := ⟨⟨0, 0, ⟨#[]⟩, false⟩⟩
def vals (o : Vl) : List Value := [.int .i64 o.kind, .int .i64 o.i, .string o.s, .bool o.b]
structure V1 (o : Vl) : Prop where
  w0 : (Lit.int .i64 o.kind).wf = true
  w1 : (Lit.int .i64 o.i).wf = true
structure Vs (w : World) (A : Option Addr) (n c : Nat) (os : List Vl) : Prop where
  len : n = os.length
  cap : n ≤ c
  max : c ≤ maxLen
  nil : A = none → c = 0
  at_ : ∀ j, j < os.length → ∃ b o, A = some ⟨b, o, none⟩ ∧ b < w.heap.size ∧ (∀ i v, (vals (os.getD j default))[i]? = some v → w.cell? ⟨b, o + (j * 4 + i), none⟩ = some v) ∧ V1 (os.getD j default)
section
variable {w w' : World} {A : Option Addr} {n c : Nat} {os : List Vl} {o : Vl}
theorem Vs.below (h : Vs w A n c os) (hb : Below w.heap.size w w') : Vs w' A n c os :=
  ⟨h.len, h.cap, h.max, h.nil, fun j hj => by
    obtain ⟨b, o, e, hlt, hc, h1⟩ := h.at_ j hj
    exact ⟨b, o, e, Nat.lt_of_lt_of_le hlt hb.size, fun i v hv => (hb.cell (p := ⟨b, o + (j * 4 + i), none⟩) hlt).trans (hc i v hv), h1⟩⟩
theorem Vs.none_ (w : World) : Vs w none 0 0 [] := ⟨rfl, Nat.le_refl _, Nat.zero_le _, fun _ => rfl, fun _ h => by simp at h⟩
theorem Vs.cells (h : Vs w A n c os) {j : Nat} (hj : j < os.length) {o : Vl} (ho : o = os.getD j default) : ∃ b f, A = some ⟨b, f, none⟩ ∧ b < w.heap.size ∧ w.cell? ⟨b, f + j * 4, none⟩ = some (.int .i64 o.kind) ∧ w.cell? ⟨b, f + j * 4 + 1, none⟩ = some (.int .i64 o.i) ∧
    w.cell? ⟨b, f + j * 4 + 2, none⟩ = some (.string o.s) ∧ w.cell? ⟨b, f + j * 4 + 3, none⟩ = some (.bool o.b) ∧ V1 o := by
  subst ho
  obtain ⟨b, f, e, hlt, hc, h1⟩ := h.at_ j hj
  exact ⟨b, f, e, hlt, hc 0 _ rfl, by rw [Nat.add_assoc]; exact hc 1 _ rfl, by rw [Nat.add_assoc]; exact hc 2 _ rfl, by rw [Nat.add_assoc]; exact hc 3 _ rfl, h1⟩
end
section
variable {H : Type} {enc : TypeId × Value → H} {P : Program} {W : World} {r : Reach} {base0 base : Nat} {spare : Nat → Bool} {held : Bool}
structure VlT (P : Program) (t : TypeId) (f0 f1 f2 f3 : Field) : Prop where
  u : P.underlying t = some (.struct #[f0, f1, f2, f3])
  c : P.cellsOf t = 4
  o0 : f0.offset = 0
  o1 : f1.offset = 1
  o2 : f2.offset = 2
  o3 : f3.offset = 3
  c0 : P.cellsOf f0.type = 1
  c1 : P.cellsOf f1.type = 1
  c2 : P.cellsOf f2.type = 1
  c3 : P.cellsOf f3.type = 1
  u0 : P.underlying f0.type = some (.int .i64)
  u1 : P.underlying f1.type = some (.int .i64)
  u2 : P.underlying f2.type = some .string
  u3 : P.underlying f3.type = some .bool
end
theorem vlT : ∃ f0 f1 f2 f3, VlT Tryz.prog 47 f0 f1 f2 f3 :=
  ⟨_, _, _, _, ⟨Tryz.underlying47, by kernel_rfl, rfl, rfl, rfl, rfl, by kernel_rfl, by kernel_rfl, by kernel_rfl, by kernel_rfl,
    Tryz.underlying3, Tryz.underlying3, Tryz.underlying9, Tryz.underlying4⟩⟩
end Wd
end Go.Proofs.YtaoeipehpakngaaGreatDoor
namespace Go.Proofs.YtaoeipehpakngaaGreatDoor
set_option maxRecDepth 20000
namespace Co
open Va (Vl May ord null)
open Sc (tr tr_yes tr_no tr_iff)
open Dc
structure Col where
  n : Int
  dict : List Vl
  ids : List Int
theorem Col.ext' {a b : Col} (h1 : a.n = b.n) (h2 : a.dict = b.dict) (h3 : a.ids = b.ids) : a = b := by
  cases a; cases b; simp_all
def none_ : Col := ⟨0, [], []⟩
def wdt (D : List Vl) : Nat := Bc.wid ((D.length : Int) - 1)
def un (C : Col) : List Int := Bc.unL C.ids C.n (wdt C.dict)
structure Valid (C : Col) : Prop where
  n0 : 0 ≤ C.n
  n1 : C.n ≤ 4096
  ris : Ris C.dict
  un0 : Bc.unE C.ids C.n (wdt C.dict) = 0
  lt : ∀ x ∈ un C, x < (C.dict.length : Int)
  all : ∀ k, k < C.dict.length → (k : Int) ∈ un C
noncomputable def nums (C : Col) : List Int := if tr (Valid C) = true then un C else []
theorem nums_yes {C : Col} (h : Valid C) : nums C = un C := by unfold nums; rw [if_pos (tr_yes h)]
theorem nums_no {C : Col} (h : ¬ Valid C) : nums C = [] := by unfold nums; rw [tr_no h]; rfl
theorem un_bd (C : Col) : ∀ x ∈ un C, 0 ≤ x := by
  unfold un Bc.unL
  split
  · intro x hx
    exact (Bt.toD_inR _ _ _ x hx).1
  · intro x hx
    cases hx
theorem nums_in {C : Col} {x : Int} (h : x ∈ nums C) : Valid C ∧ 0 ≤ x ∧ x < (C.dict.length : Int) := by
  by_cases hv : Valid C
  · rw [nums_yes hv] at h
    exact ⟨hv, un_bd C x h, hv.lt x h⟩
  · rw [nums_no hv] at h
    cases h
theorem un_len {C : Col} (h : Bc.unE C.ids C.n (wdt C.dict) = 0) : ((un C).length : Int) = C.n := by
  obtain ⟨N, W, hn, hw, _⟩ := Bc.unE_inv h
  unfold un Bc.unL
  rw [if_pos h, Bt.toD_len, hn, Int.toNat_natCast]
theorem nums_len {C : Col} (h : Valid C) : ((nums C).length : Int) = C.n := by rw [nums_yes h]; exact un_len h.un0
noncomputable def values (C : Col) : List Vl := (nums C).map fun x => C.dict.getD x.toNat default
theorem values_len (C : Col) : (values C).length = (nums C).length := by simp [values]
noncomputable def dct (l : List Vl) : List Vl := srt (adds 4096 [] l)
noncomputable def ids (l : List Vl) : List Int := l.map (fnd (dct l))
noncomputable def build (l : List Vl) : Col × Int :=
  if 4096 < l.length then (none_, 2) else if tr (∀ v ∈ l, May v) = true then (⟨l.length, dct l, Bc.packL (ids l) (wdt (dct l))⟩, 0) else (none_, 1)
theorem build_long {l : List Vl} (h : 4096 < l.length) : build l = (none_, 2) := if_pos h
theorem build_bad {l : List Vl} (h : l.length ≤ 4096) (hb : ¬ ∀ v ∈ l, May v) : build l = (none_, 1) := by unfold build; rw [if_neg (by omega), tr_no hb]; rfl
theorem build_ok {l : List Vl} (h : l.length ≤ 4096) (hm : ∀ v ∈ l, May v) : build l = (⟨l.length, dct l, Bc.packL (ids l) (wdt (dct l))⟩, 0) := by unfold build; rw [if_neg (by omega), if_pos (tr_yes hm)]
section
variable {l : List Vl} (h : l.length ≤ 4096) (hm : ∀ v ∈ l, May v)
include h hm
theorem dct_mem (x : Vl) : x ∈ dct l ↔ x ∈ l := by
  unfold dct
  rw [srt_mem, adds_mem l (by unfold lim; simp; omega)]
  constructor
  · rintro (q | q)
    · cases q
    · exact q.1
  · exact fun q => .inr ⟨q, hm x q⟩
omit h hm in
theorem dct_dis : Dis (adds 4096 [] l) 4096 := dis_adds l (dis_nil 4096)
omit h hm in
theorem dct_ris : Ris (dct l) := srt_ris (dct_dis (l := l)).may (dct_dis (l := l)).nd
omit h hm in
theorem dct_len : (dct l).length ≤ l.length := by
  unfold dct
  rw [srt_len]
  have := adds_len 4096 [] l
  simpa using this
theorem ids_at {i : Nat} (hi : i < l.length) : ∃ k : Nat, (ids l).getD i 0 = (k : Int) ∧ (dct l)[k]? = some (l.getD i default) := by
  have hmem : l.getD i default ∈ l := by
    rw [List.getD_eq_getElem?_getD, List.getElem?_eq_getElem hi]
    exact List.getElem_mem hi
  obtain ⟨k, h1, h2, _⟩ := fnd_some ((dct_mem h hm _).2 hmem)
  refine ⟨k, ?_, h2⟩
  unfold ids
  rw [List.getD_eq_getElem?_getD, List.getElem?_map, List.getElem?_eq_getElem hi, ← h1, List.getD_eq_getElem?_getD, List.getElem?_eq_getElem hi]
  rfl
omit h hm in
theorem ids_len : (ids l).length = l.length := by simp [ids]
theorem ids_lt : ∀ x ∈ ids l, 0 ≤ x ∧ x < ((dct l).length : Int) := by
  intro x hx
  obtain ⟨i, hi, e⟩ := List.getElem_of_mem hx
  have hil : i < l.length := by rw [ids_len] at hi; exact hi
  obtain ⟨k, h1, h2⟩ := ids_at h hm hil
  rw [List.getD_eq_getElem?_getD, List.getElem?_eq_getElem hi, Option.getD_some, e] at h1
  have := (List.getElem?_eq_some_iff.1 h2).1
  omega
omit hm in
theorem wdt_le : wdt (dct l) ≤ 62 := by
  have h1 := dct_len (l := l)
  have := (Bc.wid_le 12 (((dct l).length : Int) - 1)).2 (by simp; omega)
  unfold wdt
  omega
theorem ids_in : Bt.InR (wdt (dct l)) (ids l) := by
  intro x hx
  obtain ⟨h0, h1⟩ := ids_lt h hm x hx
  have := (Bc.wid_le (wdt (dct l)) (((dct l).length : Int) - 1)).1 (Nat.le_refl _)
  exact ⟨h0, by omega⟩
theorem un_build : un (build l).1 = ids l := by
  rw [build_ok h hm]
  unfold un
  show Bc.unL (Bc.packL (ids l) (wdt (dct l))) (l.length : Int) (wdt (dct l)) = ids l
  have := Bc.un_packL (wdt_le h) (by rw [ids_len]; exact h) (ids_in h hm)
  rwa [ids_len] at this
theorem valid_build : Valid (build l).1 := by
  have e := un_build h hm
  rw [build_ok h hm] at e ⊢
  refine ⟨by simp, by simp; omega, (dct_ris (l := l)), ?_, fun x hx => ?_, fun k hk => ?_⟩
  · have := Bc.un_packE (wdt_le h) (by rw [ids_len]; exact h) (ids_in h hm)
    rwa [ids_len] at this
  · rw [e] at hx
    exact (ids_lt h hm x hx).2
  · rw [e]
    have hk' : k < (dct l).length := hk
    have hmem := (dct_mem h hm _).1 (List.getElem_mem hk')
    obtain ⟨i, hi, ei⟩ := List.getElem_of_mem hmem
    have hx : fnd (dct l) (dct l)[k] = (k : Int) := fnd_at (up_nodup ((dct_ris (l := l))).2) (List.getElem?_eq_getElem hk')
    unfold ids
    exact List.mem_map.2 ⟨_, hmem, hx⟩
theorem nums_build : nums (build l).1 = ids l := by rw [nums_yes (valid_build h hm), un_build h hm]
theorem values_build : values (build l).1 = l := by
  unfold values
  rw [nums_build h hm]
  have hd : (build l).1.dict = dct l := by rw [build_ok h hm]
  rw [hd]
  refine List.ext_getElem (by simp [ids_len]) fun i h1 h2 => ?_
  obtain ⟨k, e1, e2⟩ := ids_at h hm h2
  have h3 : i < (ids l).length := by rw [ids_len]; exact h2
  rw [List.getD_eq_getElem?_getD, List.getElem?_eq_getElem h3, Option.getD_some] at e1
  rw [List.getElem_map, e1, Int.toNat_natCast, List.getD_eq_getElem?_getD, e2, Option.getD_some, List.getD_eq_getElem?_getD, List.getElem?_eq_getElem h2]
  rfl
end
def putD (D : List Vl) : List Int := D.flatMap fun v => v.kind :: Va.put v
def puts (C : Col) : List Int := Nm.vd C.n ++ Nm.vd (C.dict.length : Int) ++ putD C.dict ++ C.ids
noncomputable def put (C : Col) : List Int × Int := if tr (Valid C) = true then (puts C, 0) else ([], 1)
theorem put_yes {C : Col} (h : Valid C) : put C = (puts C, 0) := by unfold put; rw [if_pos (tr_yes h)]
theorem put_no {C : Col} (h : ¬ Valid C) : put C = ([], 1) := by unfold put; rw [tr_no h]; rfl
end Co
namespace Se
open Va (Vl May ord null)
open Sc (Sch MayS FitS tr tr_yes tr_no tr_iff)
open Co (values build)
structure Seg where
  part : Int
  id : Int
  st : Int
  en : Int
  offs : List Int
  cols : List Co.Col
theorem Seg.ext' {a b : Seg} (h1 : a.part = b.part) (h2 : a.id = b.id) (h3 : a.st = b.st) (h4 : a.en = b.en) (h5 : a.offs = b.offs) (h6 : a.cols = b.cols) : a = b := by
  cases a; cases b; simp_all
def zero : Seg := ⟨0, 0, 0, 0, [], []⟩
def ky (s : Sch) (r : List Vl) : Vl := r.getD s.sort.toNat default
def cm (s : Sch) (a b : List Vl) : Int := if s.sort = -1 then 0 else ord (ky s a) (ky s b)
def cf (s : Sch) (l : List (List Vl)) (x y : Nat) : Int := cm s (l.getD x []) (l.getD y [])
theorem cm_neg (s : Sch) (a b : List Vl) : cm s a b = -cm s b a := by
  unfold cm
  split
  · rfl
  · exact Va.ord_neg _ _
theorem cm_tr (s : Sch) {a b c : List Vl} (h : cm s a b ≤ 0) (k : cm s b c ≤ 0) : cm s a c ≤ 0 := by
  unfold cm at *
  split
  · omega
  · rename_i q
    rw [if_neg q] at h k
    exact Va.ord_le_trans h k
theorem wk (s : Sch) (l : List (List Vl)) : Ssm.Wk (cf s l) := ⟨fun _ _ => cm_neg s _ _, fun _ _ _ h k => cm_tr s h k⟩
def arr (s : Sch) (l : List (List Vl)) : List Nat := Ssm.srt (cf s l) (List.range l.length)
theorem arr_perm (s : Sch) (l : List (List Vl)) : (arr s l).Perm (List.range l.length) := Ssm.srt_perm _ _
theorem arr_len (s : Sch) (l : List (List Vl)) : (arr s l).length = l.length := by unfold arr; rw [Ssm.srt_len, List.length_range]
theorem arr_mem (s : Sch) (l : List (List Vl)) {x : Nat} : x ∈ arr s l ↔ x < l.length := by unfold arr; rw [Ssm.srt_mem, List.mem_range]
theorem arr_so (s : Sch) (l : List (List Vl)) : Ssm.So (cf s l) (arr s l) := Ssm.srt_so (wk s l) _
theorem arr_nd (s : Sch) (l : List (List Vl)) : (arr s l).Nodup := (arr_perm s l).nodup_iff.2 List.nodup_range
def Fit (s : Sch) (l : List (List Vl)) : Prop := MayS s ∧ ∀ r ∈ l, FitS s r
noncomputable def order (s : Sch) (l : List (List Vl)) : List Nat := if tr (Fit s l) = true then arr s l else []
theorem order_yes {s : Sch} {l : List (List Vl)} (h : Fit s l) : order s l = arr s l := by unfold order; rw [if_pos (tr_yes h)]
theorem order_no {s : Sch} {l : List (List Vl)} (h : ¬ Fit s l) : order s l = [] := by unfold order; rw [tr_no h]; rfl
def Head (x : Seg) : Prop := 0 ≤ x.part ∧ x.part < 4 ∧ 1 ≤ x.id ∧ x.id ≤ 1073741824 ∧ 0 ≤ x.st ∧ x.st ≤ x.en ∧ x.en ≤ 1099511627776
def Rise (lo hi : Int) : List Int → Prop
  | [] => True
  | o :: r => lo ≤ o ∧ o < hi ∧ Rise (o + 1) hi r
theorem rise_iff {hi : Int} : ∀ {lo : Int} {l : List Int}, Rise lo hi l ↔ l.Pairwise (· < ·) ∧ ∀ o ∈ l, lo ≤ o ∧ o < hi
  | lo, [] => by simp [Rise]
  | lo, o :: r => by
    rw [Rise, rise_iff (lo := o + 1) (l := r), List.pairwise_cons]
    constructor
    · rintro ⟨h1, h2, h3, h4⟩
      refine ⟨⟨fun x hx => by have := h4 x hx; omega, h3⟩, fun x hx => ?_⟩
      rcases List.mem_cons.1 hx with rfl | hx
      · exact ⟨h1, h2⟩
      · have := h4 x hx
        omega
    · rintro ⟨⟨h1, h2⟩, h3⟩
      have := h3 o (by simp)
      refine ⟨this.1, this.2, h2, fun x hx => ?_⟩
      have a := h1 x hx
      have b := h3 x (by simp [hx])
      omega
def pick (l : List (List Vl)) (o : List Nat) (k : Nat) : List Vl := o.map fun i => (l.getD i []).getD k default
noncomputable def colsOf (n : Nat) (l : List (List Vl)) (o : List Nat) : List Co.Col := (List.range n).map fun k => (build (pick l o k)).1
theorem colsOf_len (n : Nat) (l : List (List Vl)) (o : List Nat) : (colsOf n l o).length = n := by simp [colsOf]
theorem colsOf_get {n : Nat} {l : List (List Vl)} {o : List Nat} {k : Nat} (h : k < n) : (colsOf n l o).getD k Co.none_ = (build (pick l o k)).1 := by
  unfold colsOf
  rw [List.getD_eq_getElem?_getD, List.getElem?_map, List.getElem?_range h]
  rfl
def offsOf (offs : List Int) (o : List Nat) : List Int := o.map fun i => offs.getD i 0
noncomputable def sealed (s : Sch) (x : Seg) (l : List (List Vl)) (offs : List Int) : Seg := ⟨x.part, x.id, x.st, x.en, offsOf offs (arr s l), colsOf s.cols.length l (arr s l)⟩
def Arg (s : Sch) (x : Seg) (l : List (List Vl)) (offs : List Int) : Prop := Fit s l ∧ Head x ∧ offs.length = l.length ∧ Rise x.st x.en offs
noncomputable def bld (s : Sch) (x : Seg) (l : List (List Vl)) (offs : List Int) : Seg × List Nat × Int :=
  if tr (Arg s x l offs) = true then (if 4096 < l.length then (zero, [], 2) else (sealed s x l offs, arr s l, 0)) else (zero, [], 1)
theorem bld_bad {s : Sch} {x : Seg} {l : List (List Vl)} {offs : List Int} (h : ¬ Arg s x l offs) : bld s x l offs = (zero, [], 1) := by unfold bld; rw [tr_no h]; rfl
theorem bld_long {s : Sch} {x : Seg} {l : List (List Vl)} {offs : List Int} (h : Arg s x l offs) (h2 : 4096 < l.length) : bld s x l offs = (zero, [], 2) := by unfold bld; rw [if_pos (tr_yes h), if_pos h2]
theorem bld_ok {s : Sch} {x : Seg} {l : List (List Vl)} {offs : List Int} (h : Arg s x l offs) (h2 : l.length ≤ 4096) : bld s x l offs = (sealed s x l offs, arr s l, 0) := by unfold bld; rw [if_pos (tr_yes h), if_neg (by omega)]
def Has (x : Seg) (i : Int) : Prop := 0 ≤ i ∧ i < (x.offs.length : Int) ∧ ∀ c ∈ x.cols, i < ((values c).length : Int)
noncomputable def row (x : Seg) (i : Int) : List Vl := if tr (Has x i) = true then x.cols.map fun c => (values c).getD i.toNat default else []
noncomputable def rows (x : Seg) : List (List Vl) := (List.range x.offs.length).map fun (i : Nat) => row x (i : Int)
theorem row_yes {x : Seg} {i : Int} (h : Has x i) : row x i = x.cols.map fun c => (values c).getD i.toNat default := by unfold row; rw [if_pos (tr_yes h)]
theorem row_no {x : Seg} {i : Int} (h : ¬ Has x i) : row x i = [] := by unfold row; rw [tr_no h]; rfl
theorem rows_len (x : Seg) : (rows x).length = x.offs.length := by simp [rows]
theorem rows_get {x : Seg} {i : Nat} (h : i < x.offs.length) : (rows x).getD i [] = row x (i : Int) := by
  unfold rows
  rw [List.getD_eq_getElem?_getD, List.getElem?_map, List.getElem?_range h]
  rfl
def Nb (s : Sch) (x : Seg) (i : Nat) : Prop := cf s (rows x) (i - 1) i < 0 ∨ (cf s (rows x) (i - 1) i = 0 ∧ x.offs.getD (i - 1) 0 < x.offs.getD i 0)
structure Ok (s : Sch) (x : Seg) : Prop where
  head : Head x
  num : x.cols.length = s.cols.length
  len : x.offs.length ≤ 4096
  cols : ∀ c ∈ x.cols, c.n = (x.offs.length : Int) ∧ Co.Valid c
  dis : x.offs.Nodup
  rng : ∀ o ∈ x.offs, x.st ≤ o ∧ o < x.en
  fit : Fit s (rows x)
  nb : ∀ i, 1 ≤ i → i < x.offs.length → Nb s x i
end Se
namespace Rn
open Nm
def Fit (x : Int) : Prop := -9223372036854775808 ≤ x ∧ x ≤ 9223372036854775807
def Fits (l : List Int) : Prop := ∀ x, x ∈ l → Fit x
def wr (x : Int) : Int := (x + 9223372036854775808) % 18446744073709551616 - 9223372036854775808
theorem wr_fit (x : Int) : Fit (wr x) := by unfold Fit wr; omega
theorem wr_sum (p x : Int) (h : Fit x) : wr (p + wr (x - p)) = x := by unfold Fit at h; unfold wr; omega
abbrev Rs := List (Int × Int)
def addR (r : Rs) (x : Int) : Rs := match r.getLast? with
  | some (v, n) => if v = x then r.dropLast ++ [(v, n + 1)] else r ++ [(x, 1)]
  | none => [(x, 1)]
def runs (l : List Int) : Rs := l.foldl addR []
def Apart (r : Rs) (x : Int) : Prop := ∀ v n, r.getLast? = some (v, n) → v ≠ x
theorem addR_same (r : Rs) (x n : Int) : addR (r ++ [(x, n)]) x = r ++ [(x, n + 1)] := by simp [addR]
theorem addR_new {r : Rs} {x : Int} (h : Apart r x) : addR r x = r ++ [(x, 1)] := by
  unfold addR
  rcases hl : r.getLast? with _ | ⟨v, n⟩
  · have : r = [] := by simpa using hl
    simp [this]
  · simp only [if_neg (h v n hl)]
theorem apart_nil (x : Int) : Apart [] x := fun v n h => by simp at h
theorem apart_snoc (r : Rs) (v n x : Int) (h : v ≠ x) : Apart (r ++ [(v, n)]) x := fun v' n' h' => by
  simp at h'; obtain ⟨rfl, _⟩ := h'; exact h
theorem addR_last (r : Rs) (x : Int) : ∃ r' n, addR r x = r' ++ [(x, n)] := by
  unfold addR
  rcases hl : r.getLast? with _ | ⟨v, n⟩
  · exact ⟨[], 1, rfl⟩
  · by_cases h : v = x
    · simp only [if_pos h]; exact ⟨r.dropLast, n + 1, by rw [h]⟩
    · simp only [if_neg h]; exact ⟨r, 1, rfl⟩
theorem runs_snoc (l : List Int) (x : Int) : runs (l ++ [x]) = addR (runs l) x := by simp [runs]
theorem runs_last (l : List Int) (v : Int) : ∃ r n, runs (l ++ [v]) = r ++ [(v, n)] := by rw [runs_snoc]; exact addR_last _ _
theorem runs_row (l : List Int) (x : Int) (k : Nat) (h : Apart (runs l) x) : runs (l ++ List.replicate (k + 1) x) = runs l ++ [(x, ((k + 1 : Nat) : Int))] := by
  induction k with
  | zero => rw [show List.replicate (0 + 1) x = [x] from rfl, runs_snoc, addR_new h]; rfl
  | succ k ih => rw [List.replicate_succ', ← List.append_assoc, runs_snoc, ih, addR_same]; simp
theorem runs_apart (l : List Int) (v x : Int) (h : v ≠ x) : Apart (runs (l ++ [v])) x := by
  obtain ⟨r, n, e⟩ := runs_last l v
  rw [e]; exact apart_snoc r v n x h
def flat (r : Rs) : List Int := r.flatMap fun p => List.replicate p.2.toNat p.1
theorem flat_app (r s : Rs) : flat (r ++ s) = flat r ++ flat s := by simp [flat]
theorem flat_one (v n : Int) : flat [(v, n)] = List.replicate n.toNat v := by simp [flat]
def Pos (r : Rs) : Prop := ∀ p, p ∈ r → 1 ≤ p.2
theorem pos_addR {r : Rs} (h : Pos r) (x : Int) : Pos (addR r x) := by
  unfold addR
  rcases hl : r.getLast? with _ | ⟨v, n⟩
  · intro p hp; simp at hp; subst hp; exact Int.le_refl _
  · have hm := List.mem_of_getLast? hl
    by_cases e : v = x
    · simp only [if_pos e]
      intro p hp
      rcases List.mem_append.1 hp with q | q
      · exact h p (List.dropLast_subset r q)
      · simp at q; subst q; have := h _ hm; simp at this ⊢; omega
    · simp only [if_neg e]
      intro p hp
      rcases List.mem_append.1 hp with q | q
      · exact h p q
      · simp at q; subst q; exact Int.le_refl _
theorem snoc_ind {P : List Int → Prop} (h0 : P []) (hs : ∀ l x, P l → P (l ++ [x])) (l : List Int) : P l := by
  have : ∀ m : List Int, P m.reverse := by
    intro m
    induction m with
    | nil => exact h0
    | cons x m ih => rw [List.reverse_cons]; exact hs _ _ ih
  have h := this l.reverse
  rwa [List.reverse_reverse] at h
theorem runs_pos (l : List Int) : Pos (runs l) := by
  induction l using snoc_ind with
  | h0 => intro p hp; simp [runs] at hp
  | hs l x ih => rw [runs_snoc]; exact pos_addR ih x
theorem flat_addR {r : Rs} (h : Pos r) (x : Int) : flat (addR r x) = flat r ++ [x] := by
  unfold addR
  rcases hl : r.getLast? with _ | ⟨v, n⟩
  · have : r = [] := by simpa using hl
    subst this; rfl
  · have hm := h _ (List.mem_of_getLast? hl)
    obtain ⟨r', e'⟩ := List.getLast?_eq_some_iff.1 hl
    subst e'
    by_cases e : v = x
    · subst e
      simp only [if_true, List.dropLast_concat, flat_app, flat_one, List.append_assoc]
      have : (n + 1).toNat = n.toNat + 1 := by simp at hm; omega
      rw [this, List.replicate_succ']
    · simp only [if_neg e, flat_app, flat_one]; rfl
theorem flat_runs (l : List Int) : flat (runs l) = l := by
  induction l using snoc_ind with
  | h0 => rfl
  | hs l x ih => rw [runs_snoc, flat_addR (runs_pos l), ih]
theorem runs_len (l : List Int) : (runs l).length ≤ l.length := by
  induction l using snoc_ind with
  | h0 => simp [runs]
  | hs l x ih =>
    rw [runs_snoc]
    unfold addR
    rcases hl : (runs l).getLast? with _ | ⟨v, n⟩
    · simp
    · have hp : 0 < (runs l).length := List.length_pos_of_mem (List.mem_of_getLast? hl)
      by_cases e : v = x
      · simp only [if_pos e]; simp; omega
      · simp only [if_neg e]; simp; omega
theorem runs_mem (l : List Int) : ∀ p, p ∈ runs l → p.1 ∈ l ∧ p.2 ≤ l.length := by
  intro p hp
  have h1 := runs_pos l p hp
  have h2 := flat_runs l
  obtain ⟨a, b, e⟩ := List.append_of_mem hp
  rw [e, flat_app, show p :: b = [p] ++ b from rfl, flat_app, show [p] = [(p.1, p.2)] from rfl, flat_one] at h2
  have h3 := congrArg List.length h2
  simp at h3
  refine ⟨?_, by omega⟩
  rw [← h2]
  have : p.1 ∈ List.replicate p.2.toNat p.1 := by rw [List.mem_replicate]; exact ⟨by omega, rfl⟩
  simp [this]
def dlF : Int → List Int → List Int
  | _, [] => []
  | p, x :: l => wr (x - p) :: dlF x l
def deltas (l : List Int) : List Int := dlF 0 l
def smF : Int → List Int → List Int
  | _, [] => []
  | s, x :: l => wr (s + x) :: smF (wr (s + x)) l
def sums (l : List Int) : List Int := smF 0 l
theorem dlF_len (l : List Int) : ∀ p, (dlF p l).length = l.length := by
  induction l with
  | nil => intro p; rfl
  | cons x l ih => intro p; simp [dlF, ih]
theorem smF_len (l : List Int) : ∀ p, (smF p l).length = l.length := by
  induction l with
  | nil => intro p; rfl
  | cons x l ih => intro p; simp [smF, ih]
theorem deltas_len (l : List Int) : (deltas l).length = l.length := dlF_len l 0
theorem sums_len (l : List Int) : (sums l).length = l.length := smF_len l 0
theorem dlF_fits (l : List Int) : ∀ p, Fits (dlF p l) := by
  induction l with
  | nil => intro p x hx; simp [dlF] at hx
  | cons y l ih =>
    intro p x hx
    rcases List.mem_cons.1 hx with rfl | hx
    · exact wr_fit _
    · exact ih y x hx
theorem deltas_fits (l : List Int) : Fits (deltas l) := dlF_fits l 0
theorem smF_dlF (l : List Int) : ∀ p, Fits l → smF p (dlF p l) = l := by
  induction l with
  | nil => intro p _; rfl
  | cons x l ih =>
    intro p h
    rw [dlF, smF, wr_sum p x (h x (by simp)), ih x (fun y hy => h y (by simp [hy]))]
theorem sums_deltas (l : List Int) (h : Fits l) : sums (deltas l) = l := smF_dlF l 0 h
def prev (l : List Int) (k : Nat) : Int := if k = 0 then 0 else l.getD (k - 1) 0
theorem dlF_get (l : List Int) : ∀ (p : Int) (k : Nat), k < l.length → (dlF p l).getD k 0 = wr (l.getD k 0 - if k = 0 then p else l.getD (k - 1) 0) := by
  induction l with
  | nil => intro p k hk; simp at hk
  | cons x l ih =>
    intro p k hk
    cases k with
    | zero => simp [dlF]
    | succ k =>
      simp only [List.length_cons] at hk
      have := ih x k (by omega)
      rw [dlF, List.getD_cons_succ, this, List.getD_cons_succ, if_neg (show ¬ k + 1 = 0 by omega)]
      cases k with
      | zero => simp
      | succ k => simp
theorem deltas_get (l : List Int) (k : Nat) (hk : k < l.length) : (deltas l).getD k 0 = wr (l.getD k 0 - prev l k) := dlF_get l 0 k hk
theorem smF_get (l : List Int) : ∀ (p : Int) (k : Nat), k < l.length → (smF p l).getD k 0 = wr ((if k = 0 then p else (smF p l).getD (k - 1) 0) + l.getD k 0) := by
  induction l with
  | nil => intro p k hk; simp at hk
  | cons x l ih =>
    intro p k hk
    cases k with
    | zero => simp [smF]
    | succ k =>
      simp only [List.length_cons] at hk
      have := ih (wr (p + x)) k (by omega)
      rw [smF, List.getD_cons_succ, this, List.getD_cons_succ, if_neg (show ¬ k + 1 = 0 by omega)]
      cases k with
      | zero => simp
      | succ k => simp
theorem sums_get (l : List Int) (k : Nat) (hk : k < l.length) : (sums l).getD k 0 = wr (prev (sums l) k + l.getD k 0) := smF_get l 0 k hk
def plain (l : List Int) : List Int := l.flatMap fun x => vd (zz x)
def runB (r : Rs) : List Int := r.flatMap fun p => vd (zz p.1) ++ vd p.2
theorem take_next {α : Type} (l : List α) (k : Nat) (d : α) (hk : k < l.length) : l.take (k + 1) = l.take k ++ [l.getD k d] := by
  rw [List.take_succ_eq_append_getElem hk]
  simp [List.getD, hk]
theorem plain_next (l : List Int) (k : Nat) (hk : k < l.length) : plain (l.take (k + 1)) = plain (l.take k) ++ vd (zz (l.getD k 0)) := by
  rw [take_next l k 0 hk]; simp only [plain, List.flatMap_append, List.flatMap_cons, List.flatMap_nil, List.append_nil]
theorem runB_snoc (r : Rs) (v n : Int) : runB (r ++ [(v, n)]) = runB r ++ (vd (zz v) ++ vd n) := by
  simp only [runB, List.flatMap_append, List.flatMap_cons, List.flatMap_nil, List.append_nil]
theorem plain_app (l m : List Int) : plain (l ++ m) = plain l ++ plain m := by simp only [plain, List.flatMap_append]
theorem plain_drop (l : List Int) (k : Nat) (hk : k < l.length) (more : List Int) : (plain l ++ more).drop (plain (l.take k)).length = vd (zz (l.getD k 0)) ++ (plain (l.drop (k + 1)) ++ more) := by
  have e : plain l = plain (l.take k) ++ (vd (zz (l.getD k 0)) ++ plain (l.drop (k + 1))) := by
    have h : l = l.take (k + 1) ++ l.drop (k + 1) := (List.take_append_drop _ _).symm
    have h2 := congrArg plain h
    rw [plain_app, plain_next l k hk, List.append_assoc] at h2
    exact h2
  rw [e, List.append_assoc, List.drop_left, List.append_assoc]
theorem runB_app (r s : Rs) : runB (r ++ s) = runB r ++ runB s := by simp only [runB, List.flatMap_append]
theorem runB_next (r : Rs) (k : Nat) (hk : k < r.length) : runB (r.take (k + 1)) = runB (r.take k) ++ (vd (zz (r.getD k (0, 0)).1) ++ vd (r.getD k (0, 0)).2) := by
  rw [take_next r k (0, 0) hk, runB_app]; simp only [runB, List.flatMap_cons, List.flatMap_nil, List.append_nil]
theorem runB_drop (r : Rs) (k : Nat) (hk : k < r.length) (more : List Int) : (runB r ++ more).drop (runB (r.take k)).length = vd (zz (r.getD k (0, 0)).1) ++ (vd (r.getD k (0, 0)).2 ++ (runB (r.drop (k + 1)) ++ more)) := by
  have h : r = r.take (k + 1) ++ r.drop (k + 1) := (List.take_append_drop _ _).symm
  have h2 := congrArg runB h
  rw [runB_app, runB_next r k hk, List.append_assoc] at h2
  rw [h2, List.append_assoc, List.drop_left]
  simp only [List.append_assoc]
theorem flat_next (r : Rs) (k : Nat) (hk : k < r.length) : flat (r.take (k + 1)) = flat (r.take k) ++ List.replicate (r.getD k (0, 0)).2.toNat (r.getD k (0, 0)).1 := by
  rw [take_next r k (0, 0) hk, flat_app]
  congr 1
  exact flat_one _ _
theorem flat_take_len (r : Rs) (k : Nat) : (flat (r.take k)).length ≤ (flat r).length := by
  have h := congrArg List.length (congrArg flat (List.take_append_drop k r))
  rw [flat_app, List.length_append] at h
  omega
def body (l : List Int) : Nat → List Int
  | 0 => plain l
  | 1 => runB (runs l)
  | _ => plain (deltas l)
def bi (l : List Int) : Nat → Nat
  | 0 => 0
  | k + 1 => if (body l k).length < (body l (bi l k)).length then k else bi l k
theorem bi_le (l : List Int) : ∀ k, bi l (k + 1) ≤ k := by
  intro k
  induction k with
  | zero => simp [bi]
  | succ k ih => rw [bi]; split <;> omega
theorem bi_one (l : List Int) : bi l 1 = 0 := Nat.le_zero.1 (bi_le l 0)
def block (l : List Int) (k : Nat) : List Int := ((k : Int) :: vd l.length) ++ body l k
def enc (l : List Int) : List Int := block l (bi l 3)
theorem block_len (l : List Int) (k : Nat) : (block l k).length = 1 + (vd l.length).length + (body l k).length := by simp [block]; omega
theorem byt_app {a b : List Int} (ha : Byt a) (hb : Byt b) : Byt (a ++ b) := fun x hx => by
  rcases List.mem_append.1 hx with q | q
  · exact ha x q
  · exact hb x q
theorem plain_byt {l : List Int} (h : Fits l) : Byt (plain l) := by
  intro x hx
  obtain ⟨y, hy, hx⟩ := List.mem_flatMap.1 hx
  exact vd_byt (zz y) (zz_lo y) (zz_hi y (h y hy).1 (h y hy).2) x hx
def FitR (r : Rs) : Prop := ∀ p, p ∈ r → Fit p.1 ∧ 1 ≤ p.2 ∧ p.2 ≤ 4096
theorem runs_fit {l : List Int} (h : Fits l) (hl : l.length ≤ 4096) : FitR (runs l) := fun p hp => by
  have := runs_mem l p hp
  exact ⟨h _ this.1, runs_pos l p hp, by omega⟩
theorem runB_byt {r : Rs} (h : FitR r) : Byt (runB r) := by
  intro x hx
  obtain ⟨p, hp, hx⟩ := List.mem_flatMap.1 hx
  obtain ⟨h1, h2, h3⟩ := h p hp
  exact byt_app (vd_byt (zz p.1) (zz_lo p.1) (zz_hi p.1 h1.1 h1.2)) (vd_byt p.2 (by omega) (by omega)) x hx
theorem body_byt {l : List Int} (h : Fits l) (hl : l.length ≤ 4096) : ∀ k, Byt (body l k)
  | 0 => plain_byt h
  | 1 => runB_byt (runs_fit h hl)
  | _ + 2 => plain_byt (deltas_fits l)
theorem block_byt {l : List Int} (h : Fits l) (hl : l.length ≤ 4096) (k : Nat) (hk : k ≤ 255) : Byt (block l k) := by
  refine byt_app ?_ (body_byt h hl k)
  intro x hx
  rcases List.mem_cons.1 hx with rfl | hx
  · omega
  · exact vd_byt _ (by omega) (by omega) x hx
theorem plain_len (l : List Int) : l.length ≤ (plain l).length ∧ (plain l).length ≤ 10 * l.length := by
  induction l with
  | nil => simp [plain]
  | cons x l ih =>
    have := vd_len (zz x)
    have e : plain (x :: l) = vd (zz x) ++ plain l := rfl
    rw [e]; simp; omega
theorem runB_len (r : Rs) : (runB r).length ≤ 20 * r.length := by
  induction r with
  | nil => simp [runB]
  | cons p r ih =>
    have h1 := vd_len (zz p.1)
    have h2 := vd_len p.2
    have e : runB (p :: r) = (vd (zz p.1) ++ vd p.2) ++ runB r := rfl
    rw [e]; simp; omega
theorem body_len (l : List Int) : ∀ k, (body l k).length ≤ 20 * l.length
  | 0 => by have := (plain_len l).2; show (plain l).length ≤ _; omega
  | 1 => by have := runB_len (runs l); have := runs_len l; show (runB (runs l)).length ≤ _; omega
  | _ + 2 => by have := (plain_len (deltas l)).2; rw [deltas_len] at this; show (plain (deltas l)).length ≤ _; omega
theorem block_le (l : List Int) (k : Nat) : (block l k).length ≤ 11 + 20 * l.length := by
  rw [block_len]; have := body_len l k; have := (vd_len l.length).2; omega
theorem block_ge (l : List Int) (k : Nat) : 2 ≤ (block l k).length := by
  rw [block_len]; have := (vd_len l.length).1; omega
end Rn
end Go.Proofs.YtaoeipehpakngaaGreatDoor
