/- Rows in plain words: the different values of a column, the numbers of its rows, what Append answers and leaves. No program, no memory. What the reference of layer 6's Same does. What the reference of layer 6 does: text, Order. Over any program: an operation of a region that draws its order is taken first; the frame behind it stands written out. What the reference of layer 8 does: Find, Place, Rises, Search. What the reference of layer 7's Light does. What the reference of layer 8 does: Search; and few of the statements of layer 8. -/
import Derived.BigRegion
import Derived.BigQuiet
import Derived.Deep.QuietTactic
import Derived.WalkLawsBesides
import Derived.OrdersHeld
import Derived.Deep.RegionHeld3
import Derived.Deep.RegionWith
import Derived.IntWalk
import Derived.Test.YtpappcmgnnmbeaaDoorPk02
import Derived.Test.YtpappcmgnnmbeaaDoorPk04
import Derived.Test.YtpappcmgnnmbeaaDoorPk11
import Derived.Test.YtpappcmgnnmbeaaDoorPk12
namespace Go.Proofs.YtpappcmgnnmbeaaDoor
set_option maxRecDepth 20000
namespace Rw
open Va (Vl May null)
open Sc (Sch FitS MayS fits fits_get tr tr_yes tr_no)
open Dc (fnd fnd_some fnd_none fnd_at fnd_app add lim Dis)
/-- A value comes, where it is not there yet. -/
def put1 (l : List Vl) (v : Vl) : List Vl := if v ∈ l then l else l ++ [v]
/-- The different ones. -/
def ow (l : List Vl) : List Vl := l.foldl put1 []
theorem put1_old {l : List Vl} {v : Vl} (h : v ∈ l) : put1 l v = l := if_pos h
theorem put1_new {l : List Vl} {v : Vl} (h : v ∉ l) : put1 l v = l ++ [v] := if_neg h
theorem ow_nil : ow [] = [] := rfl
theorem ow_snoc (l : List Vl) (v : Vl) : ow (l ++ [v]) = put1 (ow l) v := by simp [ow]
theorem mem_put1 {l : List Vl} {v x : Vl} : x ∈ put1 l v ↔ x ∈ l ∨ x = v := by
  unfold put1
  split
  · exact ⟨.inl, fun q => q.elim id fun e => by rw [e]; assumption⟩
  · simp
theorem mem_fold : ∀ (l a : List Vl) (x : Vl), x ∈ l.foldl put1 a ↔ x ∈ a ∨ x ∈ l
  | [], a, x => by simp
  | v :: l, a, x => by
    rw [List.foldl_cons, mem_fold l, mem_put1, List.mem_cons, or_assoc]
theorem mem_ow {l : List Vl} {x : Vl} : x ∈ ow l ↔ x ∈ l := by rw [ow, mem_fold]; simp
theorem nd_put1 {l : List Vl} {v : Vl} (h : l.Nodup) : (put1 l v).Nodup := by
  unfold put1
  split
  · exact h
  · next q => exact List.nodup_append.2 ⟨h, by simp, fun a ha b hb e => q (by rw [List.mem_singleton.1 hb] at e; rw [← e]; exact ha)⟩
theorem nd_fold : ∀ (l a : List Vl), a.Nodup → (l.foldl put1 a).Nodup
  | [], _, h => h
  | _ :: l, _, h => nd_fold l _ (nd_put1 h)
theorem nd_ow (l : List Vl) : (ow l).Nodup := nd_fold l [] List.nodup_nil
theorem put1_len (l : List Vl) (v : Vl) : (put1 l v).length ≤ l.length + 1 := by
  unfold put1
  split <;> simp
theorem len_put1 (l : List Vl) (v : Vl) : l.length ≤ (put1 l v).length := by
  unfold put1
  split <;> simp
theorem len_fold : ∀ (l a : List Vl), (l.foldl put1 a).length ≤ a.length + l.length
  | [], _ => by simp
  | v :: l, a => by
    have h := len_fold l (put1 a v)
    have h1 := put1_len a v
    rw [List.foldl_cons, List.length_cons]
    omega
theorem ow_len (l : List Vl) : (ow l).length ≤ l.length := by have := len_fold l []; simpa [ow] using this
/-- The numbers of the rows. -/
def nm (l : List Vl) : List Int := l.map (fnd (ow l))
theorem nm_len (l : List Vl) : (nm l).length = l.length := by simp [nm]
theorem fnd_put1 {l : List Vl} {v x : Vl} (h : x ∈ l) : fnd (put1 l v) x = fnd l x := by
  unfold put1
  split
  · rfl
  · next q => rw [fnd_app q, if_pos h]
theorem nm_snoc (l : List Vl) (v : Vl) : nm (l ++ [v]) = nm l ++ [fnd (put1 (ow l) v) v] := by
  unfold nm
  rw [ow_snoc, List.map_append, List.map_singleton]
  congr 1
  exact List.map_congr_left fun x hx => fnd_put1 (mem_ow.2 hx)
theorem nm_get {l : List Vl} {i : Nat} (h : i < l.length) : 0 ≤ (nm l).getD i 0 ∧ (nm l).getD i 0 < ((ow l).length : Int) ∧ (ow l).getD ((nm l).getD i 0).toNat default = l.getD i default := by
  have hx : l[i] ∈ ow l := mem_ow.2 (List.getElem_mem h)
  obtain ⟨k, e, g, _⟩ := fnd_some hx
  have e1 : (nm l).getD i 0 = (k : Int) := by
    unfold nm
    rw [List.getD_eq_getElem?_getD, List.getElem?_map, List.getElem?_eq_getElem h]
    exact e
  have hk : k < (ow l).length := (List.getElem?_eq_some_iff.1 g).1
  rw [e1]
  refine ⟨by omega, by omega, ?_⟩
  rw [Int.toNat_natCast, List.getD_eq_getElem?_getD, g, List.getD_eq_getElem?_getD, List.getElem?_eq_getElem h]
theorem nm_in {l : List Vl} {x : Int} (h : x ∈ nm l) : 0 ≤ x ∧ x < ((ow l).length : Int) := by
  obtain ⟨i, hi, rfl⟩ := List.getElem_of_mem h
  rw [nm_len] at hi
  have := nm_get hi
  rw [List.getD_eq_getElem?_getD, List.getElem?_eq_getElem (by rw [nm_len]; exact hi)] at this
  exact ⟨this.1, this.2.1⟩
/-- What Add does where there is room. -/
theorem add_room {l : List Vl} {k : Int} {v : Vl} (hm : May v) (h : v ∈ l ∨ (l.length : Int) < lim k) : add l k v = (put1 l v, fnd (put1 l v) v, 0) := by
  by_cases q : v ∈ l
  · rw [Dc.add_old hm q, put1_old q]
  · rw [Dc.add_new hm q (by rcases h with h | h; exact absurd h q; exact h), put1_new q, fnd_app q, if_neg q, if_pos rfl]

/-- Rows. -/
structure St where
  s : Sch
  most : Int
  vals : Int
  rows : List (List Vl)
  offs : List Int
/-- The values of column k. -/
def col (R : List (List Vl)) (k : Nat) : List Vl := R.map fun x => x.getD k default
theorem col_len (R : List (List Vl)) (k : Nat) : (col R k).length = R.length := by simp [col]
theorem col_snoc (R : List (List Vl)) (x : List Vl) (k : Nat) : col (R ++ [x]) k = col R k ++ [x.getD k default] := by simp [col]
theorem col_get {R : List (List Vl)} {i k : Nat} (h : i < R.length) : (col R k).getD i default = (R.getD i []).getD k default := by
  simp only [col, List.getD_eq_getElem?_getD, List.getElem?_map, List.getElem?_eq_getElem h, Option.map_some, Option.getD_some]
/-- Has column k room for this row? -/
def Room1 (S : St) (row : List Vl) (k : Nat) : Prop := row.getD k default ∈ ow (col S.rows k) ∨ ((ow (col S.rows k)).length : Int) < S.vals
def Room (S : St) (row : List Vl) : Prop := ∀ k, k < S.s.cols.length → Room1 S row k
def Arg (S : St) (row : List Vl) (off : Int) : Prop := FitS S.s row ∧ 0 ≤ off ∧ off ≤ 1099511627776
def Late (S : St) (off : Int) : Prop := S.offs ≠ [] ∧ off ≤ S.offs.getD (S.offs.length - 1) 0
def Full (S : St) (row : List Vl) : Prop := S.most ≤ (S.rows.length : Int) ∨ ¬ Room S row
/-- Append's error. -/
noncomputable def er (S : St) (row : List Vl) (off : Int) : Int :=
  if tr (Arg S row off) = true then (if tr (Late S off) = true then 5 else if tr (Full S row) = true then 4 else 0) else 1
theorem er_arg {S : St} {row : List Vl} {off : Int} (h : ¬ Arg S row off) : er S row off = 1 := by unfold er; rw [tr_no h]; rfl
theorem er_late {S : St} {row : List Vl} {off : Int} (h : Arg S row off) (h1 : Late S off) : er S row off = 5 := by unfold er; rw [if_pos (tr_yes h), if_pos (tr_yes h1)]
theorem er_full {S : St} {row : List Vl} {off : Int} (h : Arg S row off) (h1 : ¬ Late S off) (h2 : Full S row) : er S row off = 4 := by unfold er; rw [if_pos (tr_yes h), tr_no h1, tr_yes h2]; rfl
theorem er_ok {S : St} {row : List Vl} {off : Int} (h : Arg S row off) (h1 : ¬ Late S off) (h2 : ¬ Full S row) : er S row off = 0 := by unfold er; rw [if_pos (tr_yes h), tr_no h1, tr_no h2]; rfl
theorem er_zero {S : St} {row : List Vl} {off : Int} (h : er S row off = 0) : Arg S row off ∧ ¬ Late S off ∧ ¬ Full S row := by
  by_cases h0 : Arg S row off
  · by_cases h1 : Late S off
    · rw [er_late h0 h1] at h; omega
    · by_cases h2 : Full S row
      · rw [er_full h0 h1 h2] at h; omega
      · exact ⟨h0, h1, h2⟩
  · rw [er_arg h0] at h; omega
/-- A row more. -/
def more (S : St) (row : List Vl) (off : Int) : St := { S with rows := S.rows ++ [row], offs := S.offs ++ [off] }
noncomputable def app (S : St) (row : List Vl) (off : Int) : St := if er S row off = 0 then more S row off else S
noncomputable def num (S : St) (row : List Vl) (off : Int) : Int := if er S row off = 0 then (S.rows.length : Int) else 0
/-- Rows that may be. -/
structure Ok (S : St) : Prop where
  may : MayS S.s
  m0 : 1 ≤ S.most
  m1 : S.most ≤ 4096
  v0 : 1 ≤ S.vals
  v1 : S.vals ≤ 4096
  len : S.offs.length = S.rows.length
  few : (S.rows.length : Int) ≤ S.most
  fit : ∀ x ∈ S.rows, fits S.s.cols x
  own : ∀ k, k < S.s.cols.length → ((ow (col S.rows k)).length : Int) ≤ S.vals
  off : ∀ o ∈ S.offs, 0 ≤ o ∧ o ≤ 1099511627776
theorem lim_vals {S : St} (h : Ok S) : lim S.vals = S.vals := by
  have := h.v0
  have := h.v1
  unfold lim
  rw [if_neg (by omega), if_neg (by omega)]
theorem ok_new {s : Sch} {most vals : Int} (h : MayS s) (h0 : 1 ≤ most) (h1 : most ≤ 4096) (h2 : 1 ≤ vals) (h3 : vals ≤ 4096) : Ok ⟨s, most, vals, [], []⟩ :=
  ⟨h, h0, h1, h2, h3, rfl, by simp; omega, fun _ q => by simp at q, fun k _ => by simp [col, ow]; omega, fun _ q => by simp at q⟩
theorem ok_more {S : St} {row : List Vl} {off : Int} (h : Ok S) (h0 : Arg S row off) (h2 : ¬ Full S row) : Ok (more S row off) := by
  have f1 : (S.rows.length : Int) < S.most := Int.not_le.1 fun q => h2 (.inl q)
  have f2 : Room S row := Classical.byContradiction fun q => h2 (.inr q)
  refine ⟨h.may, h.m0, h.m1, h.v0, h.v1, by simp [more, h.len], by simp [more]; omega, ?_, ?_, ?_⟩
  · intro x hx
    rcases List.mem_append.1 hx with q | q
    · exact h.fit x q
    · rw [List.mem_singleton.1 q]; exact h0.1.2
  · intro k hk
    show ((ow (col (S.rows ++ [row]) k)).length : Int) ≤ S.vals
    rw [col_snoc, ow_snoc]
    have h3 := h.own k hk
    rcases f2 k hk with q | q
    · rw [put1_old q]; exact h3
    · have := put1_len (ow (col S.rows k)) (row.getD k default)
      omega
  · intro o ho
    rcases List.mem_append.1 ho with q | q
    · exact h.off o q
    · rw [List.mem_singleton.1 q]; exact h0.2
theorem ok_app {S : St} (h : Ok S) (row : List Vl) (off : Int) : Ok (app S row off) := by
  unfold app
  split
  · next q =>
    obtain ⟨h0, _, h2⟩ := er_zero q
    exact ok_more h h0 h2
  · exact h
theorem app_s (S : St) (row : List Vl) (off : Int) : (app S row off).s = S.s ∧ (app S row off).most = S.most ∧ (app S row off).vals = S.vals := by
  unfold app
  split <;> exact ⟨rfl, rfl, rfl⟩
/-- A row that fits has a good value in each column. -/
theorem fit_ok {S : St} (h : Ok S) {x : List Vl} (hx : x ∈ S.rows) {k : Nat} (hk : k < S.s.cols.length) : Sc.Ok (x.getD k default) :=
  (((fits_get _ _).1 (h.fit x hx)).2 k hk).1
theorem col_ok {S : St} (h : Ok S) {k : Nat} (hk : k < S.s.cols.length) : ∀ v ∈ col S.rows k, Sc.Ok v := by
  intro v hv
  obtain ⟨x, hx, rfl⟩ := List.mem_map.1 hv
  exact fit_ok h hx hk
theorem ow_ok {S : St} (h : Ok S) {k : Nat} (hk : k < S.s.cols.length) : ∀ v ∈ ow (col S.rows k), Sc.Ok v := fun v hv => col_ok h hk v (mem_ow.1 hv)
theorem dis_col {S : St} (h : Ok S) {k : Nat} (hk : k < S.s.cols.length) : Dis (ow (col S.rows k)) S.vals :=
  ⟨fun v hv => (ow_ok h hk v hv).1, nd_ow _, by rw [lim_vals h]; exact h.own k hk⟩
theorem row_len {S : St} (h : Ok S) {x : List Vl} (hx : x ∈ S.rows) : x.length = S.s.cols.length := ((fits_get _ _).1 (h.fit x hx)).1
theorem cols_len {S : St} (h : Ok S) : 1 ≤ S.s.cols.length ∧ S.s.cols.length ≤ 8 := by
  have := ((Sc.mayS_iff S.s).1 h.may).1
  exact ⟨this.1, this.2.1⟩
end Rw
end Go.Proofs.YtpappcmgnnmbeaaDoor
namespace Go.Proofs.YtpappcmgnnmbeaaDoor
set_option maxRecDepth 20000
open Go.RowKit
namespace Sx
open Sc (tr tr_yes tr_no)
open Va (Vl May)
def LightS (vs : List Vl) : Prop := vs.length ≤ 12 ∧ ∀ i, i < vs.length → (vs.getD i default).s.size ≤ 300
theorem eq_get {vs us : List Vl} (hl : vs.length = us.length) (h : ∀ i, i < vs.length → vs.getD i default = us.getD i default) : vs = us := by
  apply List.ext_getElem hl
  intro i h1 h2
  have := h i h1
  simpa [List.getD, List.getElem?_eq_getElem h1, List.getElem?_eq_getElem h2] using this
end Sx
end Go.Proofs.YtpappcmgnnmbeaaDoor
namespace Go.Proofs.YtpappcmgnnmbeaaDoor
set_option maxRecDepth 20000
open Go.RowKit
namespace Vc
open Va
def cmpL (x y : List UInt8) : Int := way (Op.bytesLess x y) (Op.bytesLess y x)
theorem cmpS_eq (s t : ByteArray) : cmpS s t = cmpL s.toList t.toList := rfl
theorem cmpL_nil : cmpL [] [] = 0 := by simp [cmpL, Op.bytesLess, way]
theorem cmpL_lt (y : List UInt8) (h : y ≠ []) : cmpL [] y = -1 := by
  cases y with
  | nil => exact absurd rfl h
  | cons a y => simp [cmpL, Op.bytesLess, way]
theorem cmpL_gt (x : List UInt8) (h : x ≠ []) : cmpL x [] = 1 := by
  cases x with
  | nil => exact absurd rfl h
  | cons a x => simp [cmpL, Op.bytesLess, way]
theorem cmpL_cons (a b : UInt8) (x y : List UInt8) : cmpL (a :: x) (b :: y) = if a.toNat < b.toNat then -1 else if b.toNat < a.toNat then 1 else cmpL x y := by
  unfold cmpL
  rw [Op.bytesLess, Op.bytesLess]
  by_cases h1 : a < b
  · have h1' : a.toNat < b.toNat := UInt8.lt_iff_toNat_lt.1 h1
    simp [h1, h1', way]
  · have h1' : ¬ a.toNat < b.toNat := fun q => h1 (UInt8.lt_iff_toNat_lt.2 q)
    by_cases h2 : b < a
    · have h2' : b.toNat < a.toNat := UInt8.lt_iff_toNat_lt.1 h2
      have h3 : ¬ a = b := fun q => by rw [q] at h2'; omega
      simp [h1, h2, h1', h2', h3, way]
    · have h2' : ¬ b.toNat < a.toNat := fun q => h2 (UInt8.lt_iff_toNat_lt.2 q)
      have h3 : a = b := UInt8.toNat_inj.1 (by omega)
      subst h3
      simp [h1]
theorem drop_byte (s : ByteArray) (k : Nat) (h : k < s.size) : s.toList.drop k = s[k] :: s.toList.drop (k + 1) := by
  rw [ByteArray.toList_eq]
  have : k < s.data.toList.length := by simpa using h
  rw [List.drop_eq_getElem_cons this]
  rfl
theorem drop_all (s : ByteArray) (k : Nat) (h : s.size ≤ k) : s.toList.drop k = [] := by
  rw [ByteArray.toList_eq]
  exact List.drop_of_length_le (by simpa using h)
theorem drop_some (s : ByteArray) (k : Nat) (h : k < s.size) : s.toList.drop k ≠ [] := by rw [drop_byte s k h]; simp

end Vc
end Go.Proofs.YtpappcmgnnmbeaaDoor
namespace Go.Proofs.YtpappcmgnnmbeaaDoor
set_option maxRecDepth 20000
namespace Rt
theorem take {P : Program} {md : Region.Mode} {ops : Array Oper} {Q : Exit → Act → World → Prop} {S : World → Prop} {i d : Nat} {oi : Oper} {v : Value} {fuel : Nat} {listed : Array Bool} {a : Act} {w : World} (hi : ops[i]? = some oi) (hd : oi.dst = some d)
    (hs : Region.noSelect ops = true) (hf : Region.free md ops listed i = true) (hr : (Region.ready md ops listed).contains i = true)
    (hQ : ∀ c a w, Q (.panic c) (a.put oi.dst v) w → Q (.panic c) a w) (hy : YieldsIf P ops S oi v a) (hS : S w)
    (h : wpAnyH P md ops Q S fuel (listed.setIfInBounds i true) { tmps := a.tmps.setIfInBounds d v, defers := a.defers } w) : wpAnyH P md ops Q S (fuel + 1) listed a w :=
  wpAnyH_take hi hs hf hr hQ hy hS (by rw [hd]; exact h)
end Rt
end Go.Proofs.YtpappcmgnnmbeaaDoor
namespace Go.Proofs.YtpappcmgnnmbeaaDoor
set_option maxRecDepth 20000
open Go.RowKit
namespace Dc
open Va (Vl May ord)
open Sc (tr tr_yes tr_no)
theorem getD_at {vs : List Vl} {k : Nat} (h : k < vs.length) : vs[k]? = some (vs.getD k default) := by simp [List.getD, List.getElem?_eq_getElem h]
theorem getD_mem {vs : List Vl} {k : Nat} (h : k < vs.length) : vs.getD k default ∈ vs := List.mem_of_getElem? (getD_at h)
theorem drop_at {vs : List Vl} {k : Nat} (h : k < vs.length) : vs.drop k = vs.getD k default :: vs.drop (k + 1) := by
  rw [List.getD_eq_getElem?_getD, List.getElem?_eq_getElem h]
  exact List.drop_eq_getElem_cons h
theorem fnd_step {vs : List Vl} {v : Vl} {k : Nat} (h : k < vs.length) : fndF (vs.drop k) v (k : Int) = if vs.getD k default = v then (k : Int) else fndF (vs.drop (k + 1)) v ((k + 1 : Nat) : Int) := by
  rw [drop_at h, fndF]
  by_cases q : vs.getD k default = v
  · rw [if_pos q, if_pos q]
  · rw [if_neg q, if_neg q]
    rfl
theorem place_take {vs : List Vl} {v : Vl} {k : Nat} (h : k < vs.length) : place (vs.take (k + 1)) v = place (vs.take k) v + (if ord (vs.getD k default) v < 0 then 1 else 0) := by
  rw [List.take_add_one, getD_at h]
  unfold place
  rw [List.countP_append]
  simp [List.countP_cons]
theorem ris_iff (vs : List Vl) : Ris vs ↔ ∀ i, i < vs.length → May (vs.getD i default) ∧ (0 < i → ord (vs.getD (i - 1) default) (vs.getD i default) < 0) := by
  constructor
  · intro h i hi
    refine ⟨h.1 _ (getD_mem hi), fun h0 => ?_⟩
    have := (List.pairwise_iff_getElem.1 h.2) (i - 1) i (by omega) hi (by omega)
    simpa [List.getD, List.getElem?_eq_getElem hi, List.getElem?_eq_getElem (show i - 1 < vs.length by omega)] using this
  · intro h
    refine ⟨fun x hx => ?_, ?_⟩
    · obtain ⟨i, hi⟩ := List.getElem?_of_mem hx
      have hl := (List.getElem?_eq_some_iff.1 hi).1
      have := (h i hl).1
      rw [getD_at hl] at hi
      rw [Option.some.inj hi] at this
      exact this
    · have key : ∀ (n i : Nat), i + (n + 1) < vs.length → ord (vs.getD i default) (vs.getD (i + (n + 1)) default) < 0 := by
        intro n
        induction n with
        | zero => intro i hi; simpa using (h (i + 1) (by omega)).2 (by omega)
        | succ n ih =>
          intro i hi
          have h1 := ih i (by omega)
          have h2 := (h (i + (n + 1 + 1)) hi).2 (by omega)
          rw [show i + (n + 1 + 1) - 1 = i + (n + 1) by omega] at h2
          exact lt_trans h1 h2
      unfold Up
      rw [List.pairwise_iff_getElem]
      intro i j hi hj hij
      have := key (j - i - 1) i (by omega)
      rw [show i + (j - i - 1 + 1) = j by omega] at this
      simpa [List.getD, List.getElem?_eq_getElem hi, List.getElem?_eq_getElem hj] using this
end Dc
namespace Dx
open Va (Vl May ord)
open Vc (mayB mayB_iff refMay_any)
open Sc (tr tr_yes tr_no tr_iff)
open Dc
end Dx
end Go.Proofs.YtpappcmgnnmbeaaDoor
namespace Go.Proofs.YtpappcmgnnmbeaaDoor
set_option maxRecDepth 20000
open Go.RowKit
namespace Sx
open Sc (tr tr_yes tr_no)
open Va (Vl May)
set_option maxHeartbeats 1000000 in
theorem Light_any (R : Option Addr) (m d : Nat) (vs : List Vl) (w : World) (hV : Wd.Vs w R m d vs) :
    Calls Tryd.prog 32 #[.slice R m d] w fun e w' => e = .returned (.bool (tr (LightS vs))) ∧ w' = w := by
  have Hm := Lib.hid hV.len
  have HV := Lib.hid hV
  have hcap := hV.cap
  obtain ⟨r, hr⟩ : ∃ r, r = tr (LightS vs) := ⟨_, rfl⟩
  rw [← hr]
  have Hr := Lib.hid hr
  clear hr hV
  by_cases h12 : 12 < m
  · have e : r = false := by rw [Hr.out]; exact tr_no fun h => by have := h.1; have := Hm.out; omega
    subst e
    have q1 : (12 : Int) < (m : Int) := by omega
    clear h12
    go_enter Tryd.func32, Tryd.ntmps32
    go_wp2_with fail
    go_ret
    exact ⟨rfl, rfl⟩
  have q1 : ¬ (12 : Int) < (m : Int) := by omega
  go_enter Tryd.func32, Tryd.ntmps32
  go_wp2
  go_loopw [3] (fun i wr => ∃ k : Nat, i = .int .i64 k ∧ k ≤ m ∧ Hid (∀ j, j < k → (vs.getD j default).s.size ≤ 300) ∧ wr = w) (fun i _ => m - (intOf i).toNat)
  case atStart => exact ⟨0, rfl, Nat.zero_le _, Lib.hid (fun j hj => by omega), rfl⟩
  case round =>
    obtain ⟨k, rfl, hk, hf, rfl⟩ := hrel
    by_cases hlt : k < m
    · obtain ⟨e, f, hR, heB, d0, d1, d2, d3, _⟩ := HV.out.cells (j := k) (by rw [← Hm.out]; exact hlt) rfl
      subst hR
      obtain ⟨x, hx⟩ : ∃ x, x = (vs.getD k default).s := ⟨_, rfl⟩
      rw [← hx] at d2
      have Hx := Lib.hid hx
      clear hx d0 d1 d3
      by_cases hz : 300 < x.size
      · have e : r = false := by rw [Hr.out]; exact tr_no fun h => by have := h.2 k (by rw [← Hm.out]; exact hlt); rw [← Hx.out] at this; omega
        have He := Lib.hid e
        have hzI : (300 : Int) < (x.size : Int) := by omega
        clear e
        go_wp2_with fail
        go_ret
        exact ⟨by rw [He.out]; rfl, rfl⟩
      · have hzI : ¬ (300 : Int) < (x.size : Int) := by omega
        go_wp2_with fail
        go_roundw
        case rel =>
          refine ⟨k + 1, by go_num, by omega, Lib.hid fun j hj => ?_, by first | rfl | trivial⟩
          by_cases hjk : j = k
          · rw [hjk, ← Hx.out]; omega
          · exact hf.out j (by omega)
        case measure => simp [intOf]; omega
    · have hkI : ¬ (k : Int) < m := by omega
      have e : r = true := by
        rw [Hr.out]
        exact tr_yes ⟨by have := Hm.out; omega, fun i hi => hf.out i (by have := Hm.out; omega)⟩
      have He := Lib.hid e
      clear e hf
      go_wp2_with fail
      go_ret
      exact ⟨by rw [He.out]; rfl, rfl⟩
end Sx
end Go.Proofs.YtpappcmgnnmbeaaDoor
namespace Go.Proofs.YtpappcmgnnmbeaaDoor
set_option maxRecDepth 20000
open Go.RowKit
namespace Dx
open Va (Vl May ord)
open Vc (mayB mayB_iff refMay_any)
open Sc (tr tr_yes tr_no tr_iff)
open Dc
/-- What Search answers. -/
noncomputable def schN (l : List Vl) (v : Vl) : Int := if tr (May v ∧ Ris l) = true then (place l v : Int) else 0
noncomputable def schB (l : List Vl) (v : Vl) : Bool := tr (May v ∧ Ris l ∧ v ∈ l)
/-- Are there at most 100 values, of texts of at most 300 bytes? -/
def FewV (vs : List Vl) : Prop := vs.length ≤ 100 ∧ ∀ i, i < vs.length → (vs.getD i default).s.size ≤ 300
theorem light1 (x : Vl) : Sx.LightS [x] ↔ x.s.size ≤ 300 := by
  constructor
  · intro h
    exact h.2 0 (by simp)
  · intro h
    exact ⟨by simp, fun i hi => by
      obtain rfl : i = 0 := by simpa using hi
      exact h⟩
/-- One value of a slice of values, as a slice. -/
theorem vs_one {w : World} {b o n c : Nat} {vs : List Vl} (h : Wd.Vs w (some ⟨b, o, none⟩) n c vs) {k : Nat} (hk : k < vs.length) : Wd.Vs w (some ⟨b, o + k * 4, none⟩) 1 (c - k) [vs.getD k default] := by
  have hl := h.len
  have hc := h.cap
  have hm := h.max
  refine ⟨rfl, by omega, by omega, by simp, fun j hj => ?_⟩
  obtain rfl : j = 0 := by simpa using hj
  obtain ⟨b', o', e, hlt, hcell, h1⟩ := h.at_ k hk
  obtain ⟨rfl, rfl⟩ : b = b' ∧ o = o' := by cases e; exact ⟨rfl, rfl⟩
  exact ⟨b, o + k * 4, rfl, hlt, fun i v hv => by have := hcell i v hv; rw [show o + k * 4 + (0 * 4 + i) = o + (k * 4 + i) by omega]; exact this, h1⟩
end Dx
end Go.Proofs.YtpappcmgnnmbeaaDoor
