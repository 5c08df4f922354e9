/- Rows in plain words: the different values of a column, the numbers of its rows, what Append answers and leaves. No program, no memory. Words on memory, over any program: a row of numbers that is known whole, a variable that a function has captured, an answer of a slice and an error's number, a slice cut at both ends, what make leaves. Words on memory, over any program: a block that is known whole; a row that is filled place by place; a cut of a slice that begins at a known place. What the smaller functions of package value do: own, digit; a value's block; a struct result's cell. -/
import Derived.WalkKit
import Derived.WalkSpells
import Derived.WalkLawsBesides
import Derived.Lib.Hide
import Derived.Test.YtfeolclpgilfdaaPk02
import Derived.Test.YtfeolclpgilfdaaPk04
import Derived.Test.YtfeolclpgilfdaaPk01
import Derived.Test.YtfeolclpgilfdaaProg
import Derived.Test.YtfeolclpgilfdaaPk03
namespace Go.Proofs.Ytfeolclpgilfdaa
set_option maxRecDepth 20000
namespace Rw
open Va (Vl May null)
open Sc (Sch FitS MayS fits fits_get tr tr_yes tr_no)
open Dc (fnd fnd_some fnd_none fnd_at fnd_app add lim Dis)
/-- A value comes, where it is not there yet. -/
def put1 (l : List Vl) (v : Vl) : List Vl := if v ∈ l then l else l ++ [v]
/-- The different ones. -/
def ow (l : List Vl) : List Vl := l.foldl put1 []
theorem put1_old {l : List Vl} {v : Vl} (h : v ∈ l) : put1 l v = l := if_pos h
theorem put1_new {l : List Vl} {v : Vl} (h : v ∉ l) : put1 l v = l ++ [v] := if_neg h
theorem ow_nil : ow [] = [] := rfl
theorem ow_snoc (l : List Vl) (v : Vl) : ow (l ++ [v]) = put1 (ow l) v := by simp [ow]
theorem mem_put1 {l : List Vl} {v x : Vl} : x ∈ put1 l v ↔ x ∈ l ∨ x = v := by
  unfold put1
  split
  · exact ⟨.inl, fun q => q.elim id fun e => by rw [e]; assumption⟩
  · simp
theorem mem_fold : ∀ (l a : List Vl) (x : Vl), x ∈ l.foldl put1 a ↔ x ∈ a ∨ x ∈ l
  | [], a, x => by simp
  | v :: l, a, x => by
    rw [List.foldl_cons, mem_fold l, mem_put1, List.mem_cons, or_assoc]
theorem mem_ow {l : List Vl} {x : Vl} : x ∈ ow l ↔ x ∈ l := by rw [ow, mem_fold]; simp
theorem nd_put1 {l : List Vl} {v : Vl} (h : l.Nodup) : (put1 l v).Nodup := by
  unfold put1
  split
  · exact h
  · next q => exact List.nodup_append.2 ⟨h, by simp, fun a ha b hb e => q (by rw [List.mem_singleton.1 hb] at e; rw [← e]; exact ha)⟩
theorem nd_fold : ∀ (l a : List Vl), a.Nodup → (l.foldl put1 a).Nodup
  | [], _, h => h
  | _ :: l, _, h => nd_fold l _ (nd_put1 h)
theorem nd_ow (l : List Vl) : (ow l).Nodup := nd_fold l [] List.nodup_nil
theorem put1_len (l : List Vl) (v : Vl) : (put1 l v).length ≤ l.length + 1 := by
  unfold put1
  split <;> simp
theorem len_put1 (l : List Vl) (v : Vl) : l.length ≤ (put1 l v).length := by
  unfold put1
  split <;> simp
theorem len_fold : ∀ (l a : List Vl), (l.foldl put1 a).length ≤ a.length + l.length
  | [], _ => by simp
  | v :: l, a => by
    have h := len_fold l (put1 a v)
    have h1 := put1_len a v
    rw [List.foldl_cons, List.length_cons]
    omega
theorem ow_len (l : List Vl) : (ow l).length ≤ l.length := by have := len_fold l []; simpa [ow] using this
/-- The numbers of the rows. -/
def nm (l : List Vl) : List Int := l.map (fnd (ow l))
theorem nm_len (l : List Vl) : (nm l).length = l.length := by simp [nm]
theorem fnd_put1 {l : List Vl} {v x : Vl} (h : x ∈ l) : fnd (put1 l v) x = fnd l x := by
  unfold put1
  split
  · rfl
  · next q => rw [fnd_app q, if_pos h]
theorem nm_snoc (l : List Vl) (v : Vl) : nm (l ++ [v]) = nm l ++ [fnd (put1 (ow l) v) v] := by
  unfold nm
  rw [ow_snoc, List.map_append, List.map_singleton]
  congr 1
  exact List.map_congr_left fun x hx => fnd_put1 (mem_ow.2 hx)
theorem nm_get {l : List Vl} {i : Nat} (h : i < l.length) : 0 ≤ (nm l).getD i 0 ∧ (nm l).getD i 0 < ((ow l).length : Int) ∧ (ow l).getD ((nm l).getD i 0).toNat default = l.getD i default := by
  have hx : l[i] ∈ ow l := mem_ow.2 (List.getElem_mem h)
  obtain ⟨k, e, g, _⟩ := fnd_some hx
  have e1 : (nm l).getD i 0 = (k : Int) := by
    unfold nm
    rw [List.getD_eq_getElem?_getD, List.getElem?_map, List.getElem?_eq_getElem h]
    exact e
  have hk : k < (ow l).length := (List.getElem?_eq_some_iff.1 g).1
  rw [e1]
  refine ⟨by omega, by omega, ?_⟩
  rw [Int.toNat_natCast, List.getD_eq_getElem?_getD, g, List.getD_eq_getElem?_getD, List.getElem?_eq_getElem h]
theorem nm_in {l : List Vl} {x : Int} (h : x ∈ nm l) : 0 ≤ x ∧ x < ((ow l).length : Int) := by
  obtain ⟨i, hi, rfl⟩ := List.getElem_of_mem h
  rw [nm_len] at hi
  have := nm_get hi
  rw [List.getD_eq_getElem?_getD, List.getElem?_eq_getElem (by rw [nm_len]; exact hi)] at this
  exact ⟨this.1, this.2.1⟩
/-- What Add does where there is room. -/
theorem add_room {l : List Vl} {k : Int} {v : Vl} (hm : May v) (h : v ∈ l ∨ (l.length : Int) < lim k) : add l k v = (put1 l v, fnd (put1 l v) v, 0) := by
  by_cases q : v ∈ l
  · rw [Dc.add_old hm q, put1_old q]
  · rw [Dc.add_new hm q (by rcases h with h | h; exact absurd h q; exact h), put1_new q, fnd_app q, if_neg q, if_pos rfl]

/-- Rows. -/
structure St where
  s : Sch
  most : Int
  vals : Int
  rows : List (List Vl)
  offs : List Int
/-- The values of column k. -/
def col (R : List (List Vl)) (k : Nat) : List Vl := R.map fun x => x.getD k default
theorem col_len (R : List (List Vl)) (k : Nat) : (col R k).length = R.length := by simp [col]
theorem col_snoc (R : List (List Vl)) (x : List Vl) (k : Nat) : col (R ++ [x]) k = col R k ++ [x.getD k default] := by simp [col]
theorem col_get {R : List (List Vl)} {i k : Nat} (h : i < R.length) : (col R k).getD i default = (R.getD i []).getD k default := by
  simp only [col, List.getD_eq_getElem?_getD, List.getElem?_map, List.getElem?_eq_getElem h, Option.map_some, Option.getD_some]
/-- Has column k room for this row? -/
def Room1 (S : St) (row : List Vl) (k : Nat) : Prop := row.getD k default ∈ ow (col S.rows k) ∨ ((ow (col S.rows k)).length : Int) < S.vals
def Room (S : St) (row : List Vl) : Prop := ∀ k, k < S.s.cols.length → Room1 S row k
def Arg (S : St) (row : List Vl) (off : Int) : Prop := FitS S.s row ∧ 0 ≤ off ∧ off ≤ 1099511627776
def Late (S : St) (off : Int) : Prop := S.offs ≠ [] ∧ off ≤ S.offs.getD (S.offs.length - 1) 0
def Full (S : St) (row : List Vl) : Prop := S.most ≤ (S.rows.length : Int) ∨ ¬ Room S row
/-- Append's error. -/
noncomputable def er (S : St) (row : List Vl) (off : Int) : Int :=
  if tr (Arg S row off) = true then (if tr (Late S off) = true then 5 else if tr (Full S row) = true then 4 else 0) else 1
theorem er_arg {S : St} {row : List Vl} {off : Int} (h : ¬ Arg S row off) : er S row off = 1 := by unfold er; rw [tr_no h]; rfl
theorem er_late {S : St} {row : List Vl} {off : Int} (h : Arg S row off) (h1 : Late S off) : er S row off = 5 := by unfold er; rw [if_pos (tr_yes h), if_pos (tr_yes h1)]
theorem er_full {S : St} {row : List Vl} {off : Int} (h : Arg S row off) (h1 : ¬ Late S off) (h2 : Full S row) : er S row off = 4 := by unfold er; rw [if_pos (tr_yes h), tr_no h1, tr_yes h2]; rfl
theorem er_ok {S : St} {row : List Vl} {off : Int} (h : Arg S row off) (h1 : ¬ Late S off) (h2 : ¬ Full S row) : er S row off = 0 := by unfold er; rw [if_pos (tr_yes h), tr_no h1, tr_no h2]; rfl
theorem er_zero {S : St} {row : List Vl} {off : Int} (h : er S row off = 0) : Arg S row off ∧ ¬ Late S off ∧ ¬ Full S row := by
  by_cases h0 : Arg S row off
  · by_cases h1 : Late S off
    · rw [er_late h0 h1] at h; omega
    · by_cases h2 : Full S row
      · rw [er_full h0 h1 h2] at h; omega
      · exact ⟨h0, h1, h2⟩
  · rw [er_arg h0] at h; omega
/-- A row more. -/
def more (S : St) (row : List Vl) (off : Int) : St := { S with rows := S.rows ++ [row], offs := S.offs ++ [off] }
noncomputable def app (S : St) (row : List Vl) (off : Int) : St := if er S row off = 0 then more S row off else S
noncomputable def num (S : St) (row : List Vl) (off : Int) : Int := if er S row off = 0 then (S.rows.length : Int) else 0
/-- Rows that may be. -/
structure Ok (S : St) : Prop where
  may : MayS S.s
  m0 : 1 ≤ S.most
  m1 : S.most ≤ 4096
  v0 : 1 ≤ S.vals
  v1 : S.vals ≤ 4096
  len : S.offs.length = S.rows.length
  few : (S.rows.length : Int) ≤ S.most
  fit : ∀ x ∈ S.rows, fits S.s.cols x
  own : ∀ k, k < S.s.cols.length → ((ow (col S.rows k)).length : Int) ≤ S.vals
  off : ∀ o ∈ S.offs, 0 ≤ o ∧ o ≤ 1099511627776
theorem lim_vals {S : St} (h : Ok S) : lim S.vals = S.vals := by
  have := h.v0
  have := h.v1
  unfold lim
  rw [if_neg (by omega), if_neg (by omega)]
theorem ok_new {s : Sch} {most vals : Int} (h : MayS s) (h0 : 1 ≤ most) (h1 : most ≤ 4096) (h2 : 1 ≤ vals) (h3 : vals ≤ 4096) : Ok ⟨s, most, vals, [], []⟩ :=
  ⟨h, h0, h1, h2, h3, rfl, by simp; omega, fun _ q => by simp at q, fun k _ => by simp [col, ow]; omega, fun _ q => by simp at q⟩
theorem ok_more {S : St} {row : List Vl} {off : Int} (h : Ok S) (h0 : Arg S row off) (h2 : ¬ Full S row) : Ok (more S row off) := by
  have f1 : (S.rows.length : Int) < S.most := Int.not_le.1 fun q => h2 (.inl q)
  have f2 : Room S row := Classical.byContradiction fun q => h2 (.inr q)
  refine ⟨h.may, h.m0, h.m1, h.v0, h.v1, by simp [more, h.len], by simp [more]; omega, ?_, ?_, ?_⟩
  · intro x hx
    rcases List.mem_append.1 hx with q | q
    · exact h.fit x q
    · rw [List.mem_singleton.1 q]; exact h0.1.2
  · intro k hk
    show ((ow (col (S.rows ++ [row]) k)).length : Int) ≤ S.vals
    rw [col_snoc, ow_snoc]
    have h3 := h.own k hk
    rcases f2 k hk with q | q
    · rw [put1_old q]; exact h3
    · have := put1_len (ow (col S.rows k)) (row.getD k default)
      omega
  · intro o ho
    rcases List.mem_append.1 ho with q | q
    · exact h.off o q
    · rw [List.mem_singleton.1 q]; exact h0.2
theorem ok_app {S : St} (h : Ok S) (row : List Vl) (off : Int) : Ok (app S row off) := by
  unfold app
  split
  · next q =>
    obtain ⟨h0, _, h2⟩ := er_zero q
    exact ok_more h h0 h2
  · exact h
theorem app_s (S : St) (row : List Vl) (off : Int) : (app S row off).s = S.s ∧ (app S row off).most = S.most ∧ (app S row off).vals = S.vals := by
  unfold app
  split <;> exact ⟨rfl, rfl, rfl⟩
/-- A row that fits has a good value in each column. -/
theorem fit_ok {S : St} (h : Ok S) {x : List Vl} (hx : x ∈ S.rows) {k : Nat} (hk : k < S.s.cols.length) : Sc.Ok (x.getD k default) :=
  (((fits_get _ _).1 (h.fit x hx)).2 k hk).1
theorem col_ok {S : St} (h : Ok S) {k : Nat} (hk : k < S.s.cols.length) : ∀ v ∈ col S.rows k, Sc.Ok v := by
  intro v hv
  obtain ⟨x, hx, rfl⟩ := List.mem_map.1 hv
  exact fit_ok h hx hk
theorem ow_ok {S : St} (h : Ok S) {k : Nat} (hk : k < S.s.cols.length) : ∀ v ∈ ow (col S.rows k), Sc.Ok v := fun v hv => col_ok h hk v (mem_ow.1 hv)
theorem dis_col {S : St} (h : Ok S) {k : Nat} (hk : k < S.s.cols.length) : Dis (ow (col S.rows k)) S.vals :=
  ⟨fun v hv => (ow_ok h hk v hv).1, nd_ow _, by rw [lim_vals h]; exact h.own k hk⟩
theorem row_len {S : St} (h : Ok S) {x : List Vl} (hx : x ∈ S.rows) : x.length = S.s.cols.length := ((fits_get _ _).1 (h.fit x hx)).1
theorem cols_len {S : St} (h : Ok S) : 1 ≤ S.s.cols.length ∧ S.s.cols.length ≤ 8 := by
  have := ((Sc.mayS_iff S.s).1 h.may).1
  exact ⟨this.1, this.2.1⟩
end Rw
end Go.Proofs.Ytfeolclpgilfdaa
namespace Go.Proofs.Ytfeolclpgilfdaa
set_option maxRecDepth 20000
open Go.RowKit
namespace Wd
/-- Block g is a row of the numbers ys, of kind k and type e, that may be written. -/
def Row (w : World) (g : Nat) (k : IntKind) (e : TypeId) (ys : List Int) : Prop := w.heap[g]? = some (.cells (ys.map (Value.int k)).toArray e (0, 0))
/-- Block p is a variable of type e that holds v. -/
def Var (w : World) (p : Nat) (e : TypeId) (v : Value) : Prop := w.heap[p]? = some (.cells #[v] e (0, 0))
section
variable {w w' : World} {g p : Nat} {k : IntKind} {e : TypeId} {ys : List Int} {v u : Value}
theorem Row.lt (h : Row w g k e ys) : g < w.heap.size := lt_of_block h
theorem Row.cell (h : Row w g k e ys) (j : Nat) (hj : j < ys.length) : w.cell? ⟨g, j, none⟩ = some (.int k (ys.getD j 0)) := by
  rw [cell_of_row w g j _ e (0, 0) h]
  simp [List.getD, List.getElem?_eq_getElem hj]
theorem Row.free (h : Row w g k e ys) (j : Nat) : w.frozen? ⟨g, j, none⟩ = false := frozen_of_row w g j _ e h
theorem Row.set (h : Row w g k e ys) (j : Nat) (x : Int) : Row (w.setCell ⟨g, j, none⟩ (.int k x)) g k e (ys.set j x) := by
  unfold Row
  rw [heap_setCell_same w g j _ e _ h]
  simp [List.map_set]
theorem Row.other (h : Row w g k e ys) {a : Addr} (ha : g ≠ a.block) : Row (w.setCell a u) g k e ys := by
  unfold Row
  rw [heap_setCell_other w a g u ha]
  exact h
theorem Row.drew (h : Row w g k e ys) : Row w.drew g k e ys := h
theorem Row.alloc (h : Row w g k e ys) (o : Obj) : Row (w.alloc o) g k e ys := by
  unfold Row
  rw [Below.heap_alloc w o g h.lt]
  exact h
theorem Row.below {B : Nat} (h : Row w g k e ys) (hg : g < B) (hb : Below B w w') : Row w' g k e ys := by
  unfold Row
  rw [hb.block g hg]
  exact h
theorem Row.of_own {base n : Nat} (h : w.ownsRow base e 1 (.slice (some ⟨g, 0, none⟩) n n) n (ys.map (Value.int k))) : Row w g k e ys ∧ base ≤ g ∧ n = ys.length := by
  have hl : n = ys.length := by have := h.1; simpa using this.symm
  rcases h.2 with ⟨h', _⟩ | ⟨g', cap', cur, h', hb, hg, _, _, hs, ht⟩
  · simp at h'
  · simp only [Value.slice.injEq, Option.some.injEq, Addr.mk.injEq, and_true, true_and] at h'
    obtain ⟨rfl, rfl⟩ := h'
    refine ⟨?_, hb, hl⟩
    unfold Row
    rw [hg]
    have : cur = (ys.map (Value.int k)).toArray := by
      rw [← ht, List.take_of_length_le (by simp; omega)]
    rw [this]
theorem Row.sl (h : Row w g k e ys) (n : Nat) (hn : n = ys.length) (hm : n ≤ maxLen) : Sl w k (some ⟨g, 0, none⟩) n n ys :=
  ⟨hn, Nat.le_refl _, hm, by simp, Rd.mk h.lt fun j hj => by rw [Nat.zero_add]; exact h.cell j hj⟩
theorem Var.lt (h : Var w p e v) : p < w.heap.size := lt_of_block h
theorem Var.cell (h : Var w p e v) : w.cell? ⟨p, 0, none⟩ = some v := cell_of_one h
theorem Var.free (h : Var w p e v) : w.frozen? ⟨p, 0, none⟩ = false := free_of_one h
theorem Var.set (h : Var w p e v) : Var (w.setCell ⟨p, 0, none⟩ u) p e u := one_setCell h
theorem Var.other (h : Var w p e v) {a : Addr} (ha : p ≠ a.block) : Var (w.setCell a u) p e v := by
  unfold Var
  rw [heap_setCell_other w a p u ha]
  exact h
theorem Var.alloc (h : Var w p e v) (o : Obj) : Var (w.alloc o) p e v := by
  unfold Var
  rw [Below.heap_alloc w o p h.lt]
  exact h
theorem Var.new (w : World) (e : TypeId) (v : Value) : Var (w.alloc (.cells #[v] e)) w.heap.size e v := heap_alloc_new w _
theorem Var.drew (h : Var w p e v) : Var w.drew p e v := h
end
/-- A call of w ended in w' with a slice of the numbers ys and an error's number, and nothing that was there has turned. -/
def Out2 (w : World) (k : IntKind) (ys : List Int) (er : Int) (e : Ending) (w' : World) : Prop :=
  ∃ A n c, e = .returned (.tuple #[.slice A n c, .int .i64 er]) ∧ Sl w' k A n c ys ∧ Below w.heap.size w w'
theorem Out2.err (w w' : World) (k : IntKind) (er : Int) (h : Below w.heap.size w w') : Out2 w k [] er (.returned (.tuple #[.slice none 0 0, .int .i64 er])) w' := ⟨none, 0, 0, rfl, Sl.none_ _ _, h⟩
/-- The cut 's[lo:hi]'. -/
theorem Sl.mid {w : World} {k : IntKind} {A : Option Addr} {n c : Nat} {ys : List Int} (h : Sl w k A n c ys) (lo hi : Nat) (h1 : lo ≤ hi) (h2 : hi ≤ n) : Sl w k (if c = lo then A else A.map (·.add lo)) (hi - lo) (c - lo) ((ys.drop lo).take (hi - lo)) :=
  (h.cut lo (by omega)).head (hi - lo) (by omega)
theorem Sl.mid' {w : World} {k : IntKind} {A : Option Addr} {n c : Nat} {ys : List Int} (h : Sl w k A n c ys) (lo hi : Nat) (h1 : lo ≤ hi) (h2 : hi ≤ n) (hc : c ≠ lo) : Sl w k (A.map (·.add lo)) (hi - lo) (c - lo) ((ys.drop lo).take (hi - lo)) := by
  have := h.mid lo hi h1 h2
  rwa [if_neg hc] at this
theorem made_zero (k : IntKind) (n : Nat) : (madeCells (Value.int k 0).cells (n * 1)).toList = (List.replicate n (0 : Int)).map (Value.int k) := by
  refine List.ext_getElem (by simp [madeCells]) fun i h1 h2 => ?_
  simp [madeCells, Value.cells, Nat.mod_one]
def lenOf : Value → Nat | .slice _ n _ => n | _ => 0
theorem own_slice {w : World} {B : Nat} {e : TypeId} {k : IntKind} {v : Value} {t : Nat} {xs : List Int} (h : w.ownsRow B e 1 v xs.length (xs.map (Value.int k))) (ht : xs.length = t) : ∃ A c, v = .slice A t c := by
  obtain ⟨_, A, c, rfl, _⟩ := own_form h
  exact ⟨A, c, by rw [ht]⟩
end Wd
end Go.Proofs.Ytfeolclpgilfdaa
namespace Go.Proofs.Ytfeolclpgilfdaa
set_option maxRecDepth 20000
open Go.RowKit
namespace Wd
/-- Block g is just the cells cs, of element type t, and may be written. -/
def Bx (w : World) (g : Nat) (t : TypeId) (cs : Array Value) : Prop := w.heap[g]? = some (.cells cs t (0, 0))
section
variable {w w' : World} {g : Nat} {t : TypeId} {cs : Array Value}
theorem Bx.lt (h : Bx w g t cs) : g < w.heap.size := lt_of_block h
theorem Bx.cell (h : Bx w g t cs) (j : Nat) : w.cell? ⟨g, j, none⟩ = cs[j]? := cell_of_row w g j cs t (0, 0) h
theorem Bx.free (h : Bx w g t cs) (j : Nat) : w.frozen? ⟨g, j, none⟩ = false := frozen_of_row w g j cs t h
theorem Bx.new (w : World) (t : TypeId) (cs : Array Value) : Bx (w.alloc (.cells cs t)) w.heap.size t cs := heap_alloc_new w _
theorem Bx.alloc (h : Bx w g t cs) (o : Obj) : Bx (w.alloc o) g t cs := by
  unfold Bx
  rw [Below.heap_alloc w o g h.lt]
  exact h
theorem Bx.below {B : Nat} (h : Bx w g t cs) (hg : g < B) (hb : Below B w w') : Bx w' g t cs := by
  unfold Bx
  rw [hb.block g hg]
  exact h
theorem Bx.grown {row : Option Nat} (h : Bx w g t cs) (hb : w.grownBy w' row) (hg : some g ≠ row) : Bx w' g t cs := (hb.block g h.lt hg).trans h
/-- A row whose elements are of another type is another block. -/
theorem Bx.apart {base : Nat} {e : TypeId} {size n : Nat} {v : Value} {xs : List Value} (h : Bx w g t cs) (hr : w.ownsRow base e size v n xs) (hne : t ≠ e) : some g ≠ v.ownBlock := by
  rcases hr.2 with ⟨rfl, _⟩ | ⟨g', cap, cur, rfl, _, hg, _⟩
  · simp [Value.ownBlock]
  · intro he
    have : g = g' := by simpa [Value.ownBlock] using he
    subst this
    unfold Bx at h
    rw [h] at hg
    simp only [Option.some.injEq, Obj.cells.injEq] at hg
    exact hne hg.2.1
end

/-- The first k of d, and zeros behind. -/
def fill (d : List Int) (k : Nat) : List Int := d.take k ++ List.replicate (d.length - k) 0
theorem fill_zero (d : List Int) : fill d 0 = List.replicate d.length 0 := by simp [fill]
theorem fill_all (d : List Int) : fill d d.length = d := by simp [fill]
theorem fill_len (d : List Int) (k : Nat) : (fill d k).length = d.length := by simp [fill]; omega
theorem fill_set (d : List Int) (k : Nat) (hk : k < d.length) : (fill d k).set k (d.getD k 0) = fill d (k + 1) := by
  refine List.ext_getElem (by simp [fill_len]) fun i h1 h2 => ?_
  simp only [fill_len, List.length_set] at h1 h2
  rw [List.getElem_set]
  simp only [fill, List.getElem_append, List.length_take, List.getElem_take, List.getElem_replicate]
  by_cases e : k = i
  · subst e
    rw [if_pos rfl, dif_pos (by omega)]
    simp [List.getD, hk]
  · rw [if_neg e]
    by_cases q : i < min k d.length
    · rw [dif_pos q, dif_pos (by omega)]
    · rw [dif_neg q, dif_neg (by omega)]

/-- The cut 's[q:]' of a slice that begins at a known place. -/
theorem Sl.cut_at {w : World} {k : IntKind} {b o n c : Nat} {ys : List Int} (h : Sl w k (some ⟨b, o, none⟩) n c ys) (q : Nat) (hq : q ≤ n) (hc : c ≠ q) : Sl w k (some ⟨b, o + q, none⟩) (n - q) (c - q) (ys.drop q) := by
  have := h.cut q hq
  rw [if_neg hc, Option.map_some, Addr.add_lit] at this
  exact this
end Wd
end Go.Proofs.Ytfeolclpgilfdaa
namespace Go.Proofs.Ytfeolclpgilfdaa
set_option maxRecDepth 20000
open Go.RowKit
namespace Vc
open Va
/-- A value as the program holds it. -/
def ownI (k i : Int) : Int := if k = 1 then i else 0
def ownS (k : Int) (s : ByteArray) : ByteArray := if k = 2 then s else ⟨#[]⟩
def ownB (k : Int) (b : Bool) : Bool := if k = 3 then b else false

theorem res_cell1 {fn : Func} {p : Tmp} {ty : TypeId} (h : fn.results = #[.cell p ty]) (tmps : Array Value) (P : Program) (w : World) :
    (results fn tmps).run P w = ((asAddr (tmps.getD p undef)).run P w).andThen fun a w₁ => (loadVar ty a).run P w₁ := by
  simp only [results, h]
  simp [Sem.run_bind, Result.andThen]
theorem res_cell3 {fn : Func} {p u v : Tmp} {ty : TypeId} (h : fn.results = #[.cell p ty, .tmp u, .tmp v]) (tmps : Array Value) (P : Program) (w : World) :
    (results fn tmps).run P w = ((asAddr (tmps.getD p undef)).run P w).andThen fun a w₁ => ((loadVar ty a).run P w₁).andThen fun x w₂ => .ok (.tuple #[x, tmps.getD u undef, tmps.getD v undef]) w₂ := by
  simp only [results, h]
  simp [Sem.run_bind, Result.andThen]

theorem own_any (k i : Int) (s : ByteArray) (b : Bool) (w : World) :
    Calls Try.prog 67 #[.agg #[.int .i64 k, .int .i64 i, .string s, .bool b]] w fun e w' => e = .returned (.agg #[.int .i64 k, .int .i64 (ownI k i), .string (ownS k s), .bool (ownB k b)]) ∧ Below w.heap.size w w' := by
  unfold ownI ownS ownB
  by_cases h1 : k = 1
  · subst h1
    go_enter Try.func67, Try.ntmps67
    go_wp2_with fail
    (try simp only [Exit.inBlock, Exit.then])
    refine bodyPost_ret (v := .agg #[.int .i64 1, .int .i64 i, .string ⟨#[]⟩, .bool false]) ?_ rfl ⟨rfl, ?_⟩
    · rw [res_cell1 rfl]; go_simp
    · repeat' (first | exact Below.refl _ _ | refine Below.setCell ?_ (by simp) _ | refine Below.alloc ?_ (by simp <;> omega) _)
  by_cases h2 : k = 2
  · subst h2
    go_enter Try.func67, Try.ntmps67
    go_wp2_with fail
    (try simp only [Exit.inBlock, Exit.then])
    refine bodyPost_ret (v := .agg #[.int .i64 2, .int .i64 0, .string s, .bool false]) ?_ rfl ⟨rfl, ?_⟩
    · rw [res_cell1 rfl]; go_simp
    · repeat' (first | exact Below.refl _ _ | refine Below.setCell ?_ (by simp) _ | refine Below.alloc ?_ (by simp <;> omega) _)
  by_cases h3 : k = 3
  · subst h3
    go_enter Try.func67, Try.ntmps67
    go_wp2_with fail
    (try simp only [Exit.inBlock, Exit.then])
    refine bodyPost_ret (v := .agg #[.int .i64 3, .int .i64 0, .string ⟨#[]⟩, .bool b]) ?_ rfl ⟨rfl, ?_⟩
    · rw [res_cell1 rfl]; go_simp
    · repeat' (first | exact Below.refl _ _ | refine Below.setCell ?_ (by simp) _ | refine Below.alloc ?_ (by simp <;> omega) _)
  rw [if_neg h1, if_neg h2, if_neg h3]
  have q1 : (k == 1) = false := by simpa using h1
  have q2 : (k == 2) = false := by simpa using h2
  have q3 : (k == 3) = false := by simpa using h3
  go_enter Try.func67, Try.ntmps67
  go_wp2_with fail
  (try simp only [Exit.inBlock, Exit.then])
  refine bodyPost_ret (v := .agg #[.int .i64 k, .int .i64 0, .string ⟨#[]⟩, .bool false]) ?_ rfl ⟨rfl, ?_⟩
  · rw [res_cell1 rfl]; go_simp
  · repeat' (first | exact Below.refl _ _ | refine Below.setCell ?_ (by simp) _ | refine Below.alloc ?_ (by simp <;> omega) _)
/-- The byte of a truth. -/
def dg (b : Bool) : Int := if b then 1 else 0
/-- A value's block. -/
def Vb (w : World) (g : Nat) (k i : Int) (s : ByteArray) (b : Bool) : Prop := Wd.Bx w g 49 #[.int .i64 k, .int .i64 i, .string s, .bool b]
theorem four {w : World} {g : Nat} {k i : Int} {s : ByteArray} {b : Bool} (h : Vb w g k i s b) :
    (w.cell? ⟨g, 0, none⟩ = some (.int .i64 k) ∧ w.cell? ⟨g, 1, none⟩ = some (.int .i64 i) ∧ w.cell? ⟨g, 2, none⟩ = some (.string s) ∧ w.cell? ⟨g, 3, none⟩ = some (.bool b))
    ∧ (w.frozen? ⟨g, 0, none⟩ = false ∧ w.frozen? ⟨g, 1, none⟩ = false ∧ w.frozen? ⟨g, 2, none⟩ = false ∧ w.frozen? ⟨g, 3, none⟩ = false) :=
  ⟨⟨(Wd.Bx.cell h 0).trans rfl, (Wd.Bx.cell h 1).trans rfl, (Wd.Bx.cell h 2).trans rfl, (Wd.Bx.cell h 3).trans rfl⟩, Wd.Bx.free h 0, Wd.Bx.free h 1, Wd.Bx.free h 2, Wd.Bx.free h 3⟩
/-- A value's block is written whole. -/
def setV (w : World) (g : Nat) (k i : Int) (s : ByteArray) (b : Bool) : World := (((w.setCell ⟨g, 0, none⟩ (.int .i64 k)).setCell ⟨g, 1, none⟩ (.int .i64 i)).setCell ⟨g, 2, none⟩ (.string s)).setCell ⟨g, 3, none⟩ (.bool b)
theorem Vb.set {w : World} {g : Nat} {k i k' i' : Int} {s s' : ByteArray} {b b' : Bool} (h : Vb w g k i s b) : Vb (setV w g k' i' s' b') g k' i' s' b' := by
  have h1 := heap_setCell_same w g 0 _ _ (.int .i64 k') h
  have h2 := heap_setCell_same _ g 1 _ _ (.int .i64 i') h1
  have h3 := heap_setCell_same _ g 2 _ _ (.string s') h2
  have h4 := heap_setCell_same _ g 3 _ _ (.bool b') h3
  exact h4
theorem Vb.other {w : World} {g g' : Nat} {k i k' i' : Int} {s s' : ByteArray} {b b' : Bool} (h : Vb w g k i s b) (hg : g ≠ g') : Vb (setV w g' k' i' s' b') g k i s b := by
  unfold Vb Wd.Bx setV
  rw [heap_setCell_other _ _ _ _ hg, heap_setCell_other _ _ _ _ hg, heap_setCell_other _ _ _ _ hg, heap_setCell_other _ _ _ _ hg]
  exact h
theorem below_setV {B : Nat} {w w' : World} {g : Nat} {k i : Int} {s : ByteArray} {b : Bool} (h : Below B w w') (hg : B ≤ g) : Below B w (setV w' g k i s b) :=
  (((h.setCell hg _).setCell hg _).setCell hg _).setCell hg _

end Vc
end Go.Proofs.Ytfeolclpgilfdaa
