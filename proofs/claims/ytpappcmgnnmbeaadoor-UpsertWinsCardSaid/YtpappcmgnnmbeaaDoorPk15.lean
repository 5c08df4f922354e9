/- Rows of values of the call's own: append of one value, as one step of a list of operations and of a region that draws. Rows of values: what Decode answers; their numbers are the machine's. What the reference of layer 8 does: Add. A block of values that is known whole: what make leaves, a value stored at a place. What the reference of layer 8 does: Sorted. What the statements of layer 8 ask of a dictionary in memory: contracts of its methods, as one word; the chapter's example. What New, Len, Find, At of package dict do. Rows in memory: their record, the block of their columns, each column's dictionary and numbers; what is kept while one column turns. -/
import Derived.Maps.AppendAt
import Derived.Deep.RegionLaw
import Derived.WalkKit
import Derived.WalkSpells
import Derived.Maps.OwnSet
import Derived.Test.YtpappcmgnnmbeaaDoorPk02
import Derived.Test.YtpappcmgnnmbeaaDoorPk10
import Derived.Test.YtpappcmgnnmbeaaDoorPk04
import Derived.Test.YtpappcmgnnmbeaaDoorPk14
import Derived.Test.YtpappcmgnnmbeaaDoorPk05
import Derived.Test.YtpappcmgnnmbeaaDoorPk09
namespace Go.Proofs.YtpappcmgnnmbeaaDoor
set_option maxRecDepth 20000
open Go.RowKit Go.Maps
namespace Wd
open Va (Vl)
def flatV (L : List Vl) : List Value := L.flatMap vals
theorem flatV_app (L M : List Vl) : flatV (L ++ M) = flatV L ++ flatV M := List.flatMap_append
theorem flatV_one (v : Vl) : flatV [v] = vals v := by simp [flatV]
theorem flatV_len : ∀ L : List Vl, (flatV L).length = L.length * 4
  | [] => rfl
  | f :: r => by show (vals f ++ flatV r).length = _; rw [List.length_append, flatV_len r, List.length_cons]; simp [vals]; omega
theorem flatV_get : ∀ (L : List Vl) (j : Nat), j < L.length → ∀ i v, (vals (L.getD j default))[i]? = some v → (flatV L)[j * 4 + i]? = some v
  | [], _, h, _, _, _ => by simp at h
  | f :: r, 0, _, i, v, hv => by
    show (vals f ++ flatV r)[0 * 4 + i]? = some v
    have hi : i < (vals f).length := (List.getElem?_eq_some_iff.1 (by simpa using hv)).1
    rw [Nat.zero_mul, Nat.zero_add, List.getElem?_append_left hi]
    simpa using hv
  | f :: r, j + 1, h, i, v, hv => by
    have := flatV_get r j (by simpa using h) i v (by simpa using hv)
    show (vals f ++ flatV r)[(j + 1) * 4 + i]? = some v
    rw [List.getElem?_append_right (by simp [vals]; omega)]
    rw [show (j + 1) * 4 + i - (vals f).length = j * 4 + i by simp [vals]; omega]
    exact this
/-- A row of the call's own that holds values, as a slice of such. -/
theorem Vs.of_own {w : World} {base : Nat} {e : TypeId} {v : Value} {n : Nat} {L : List Vl} (h : w.ownsRow base e 4 v n (flatV L)) (h1 : ∀ j, j < L.length → V1 (L.getD j default)) : ∃ A n c, v = .slice A n c ∧ Vs w A n c L := by
  have hl : n = L.length := by have := h.1; rw [flatV_len] at this; omega
  subst hl
  rcases h.2 with ⟨rfl, h0⟩ | ⟨g, cap, cur, rfl, hb, hg, h2, h3, h4, h5⟩
  · have : L = [] := List.eq_nil_of_length_eq_zero h0
    subst this
    exact ⟨none, 0, 0, rfl, Vs.none_ _⟩
  · refine ⟨_, _, _, rfl, ⟨rfl, h2, h3, by simp, fun j hj => ⟨g, 0, rfl, (Array.getElem?_eq_some_iff.1 hg).1, fun i u hu => ?_, h1 j hj⟩⟩⟩
    rw [Nat.zero_add]
    have hi : i < 4 := by have := (List.getElem?_eq_some_iff.1 hu).1; simpa [vals] using this
    exact (h.cellAt (j * 4 + i) (by omega)).trans (flatV_get L j hj i u hu)
theorem info_vl : (Tryd.prog.info? 27).map (fun i => (i.zero, i.size, i.bytes)) = some (some (.agg #[.int .i64 0, .int .i64 0, .string ⟨#[]⟩, .bool false]), 4, 40) := by kernel_rfl
theorem vals_one (o : Vl) : ∀ u ∈ vals o, u.oneCell' = true := by
  intro u hu
  simp only [vals, List.mem_cons, List.not_mem_nil, or_false] at hu
  rcases hu with rfl | rfl | rfl | rfl <;> rfl
theorem vals_new (w : World) (o : Vl) (cs : Array Value) (hc : cs = (vals o).toArray) : ∀ j u, (vals o)[j]? = some u → (w.alloc (.cells cs 27)).cell? ((⟨w.heap.size, 0, none⟩ : Addr).add j) = some u := by
  intro j u hu
  subst hc
  rw [Addr.add_lit, Nat.zero_add, (Wd.Bx.new w 27 (vals o).toArray).cell j]
  simpa using hu
/-- append of one value. -/
theorem run_appV (w : World) (ty : TypeId) (B : Nat) (v : Value) (L : List Vl) (hown : w.ownsRow B 27 4 v L.length (flatV L)) (ad : Addr) (o : Vl) (hc : ∀ j u, (vals o)[j]? = some u → w.cell? (ad.add j) = some u) (hL : L.length ≤ 1000000) (hB : B ≤ w.heap.size) :
    ∃ v' w', (Builtin.append_ #[40, 40] ty #[v, .slice (some ad) 1 1]).run Tryd.prog w = .ok v' w' ∧ w'.ownsRow B 27 4 v' (L ++ [o]).length (flatV (L ++ [o])) ∧ w.grownBy w' v.ownBlock := by
  obtain ⟨i0, hi, hz0, hz1, hz2⟩ := info_parts info_vl
  obtain ⟨v', w', hrun, h2, h3, _, _⟩ := run_append_own_at (P := Tryd.prog) w B 40 ty 27 i0 _ 4 40 Tryd.underlying40 hi hz0 hz1 hz2 rfl (by decide) v L.length _ hown ad 1 1 (vals o) rfl hc (vals_one o) (by unfold maxLen; omega) (by omega) hB
  exact ⟨v', w', hrun, by rw [List.length_append, flatV_app, flatV_one]; exact h2, h3⟩
theorem step_appV (w : World) {ops : Array Oper} {o : Oper} {a : Act} {K : Act → World → Prop} {Q : Exit → Act → World → Prop} {E : Prop} (hgd : o.guard = none) (s x : Operand)
    (ho : o.op = .call { callee := .builtin .append, args := #[s, x], argTypes := #[40, 40] })
    (B : Nat) (v : Value) (L : List Vl) (hs : a.eval s = v) (hown : w.ownsRow B 27 4 v L.length (flatV L)) (ad : Addr) (y : Vl) (hx : a.eval x = .slice (some ad) 1 1) (hc : ∀ j u, (vals y)[j]? = some u → w.cell? (ad.add j) = some u) (hL : L.length ≤ 1000000) (hB : B ≤ w.heap.size)
    (h : ∀ v' w', w'.ownsRow B 27 4 v' (L ++ [y]).length (flatV (L ++ [y])) → w.grownBy w' v.ownBlock → K (a.put o.dst v') w') : if Region.wanted o (yielded ops a.tmps) = true then Oper.wp Tryd.prog o a w K Q else E := by
  rw [if_pos (by simp [Region.wanted, hgd])]
  obtain ⟨v', w', hrun, h2, h3⟩ := run_appV w o.type B v L hown ad y hc hL hB
  unfold Oper.wp
  simp [execOp, ho, resolve, invoke, builtin, hs, hx, hrun, Result.andThen]
  exact h v' w' h2 h3
theorem wpList_appV1 (w : World) {ops : Array Oper} {rest : List Oper} {o : Oper} {a : Act} {Q : Exit → Act → World → Prop} (hgd : o.guard = none) (s x : Operand)
    (ho : o.op = .call { callee := .builtin .append, args := #[s, x], argTypes := #[40, 40] })
    (B : Nat) (v : Value) (L : List Vl) (hs : a.eval s = v) (hown : w.ownsRow B 27 4 v L.length (flatV L)) (ad : Addr) (y : Vl) (hx : a.eval x = .slice (some ad) 1 1) (hc : ∀ j u, (vals y)[j]? = some u → w.cell? (ad.add j) = some u) (hL : L.length ≤ 1000000) (hB : B ≤ w.heap.size)
    (h : ∀ v' w', w'.ownsRow B 27 4 v' (L ++ [y]).length (flatV (L ++ [y])) → w.grownBy w' v.ownBlock → wpList Tryd.prog ops Q rest (a.put o.dst v') w') : wpList Tryd.prog ops Q (o :: rest) a w := by
  refine wpList_plain hgd fun K hK => ?_
  obtain ⟨v', w', hrun, h2, h3⟩ := run_appV w o.type B v L hown ad y hc hL hB
  unfold Oper.wp
  simp [execOp, ho, resolve, invoke, builtin, hs, hx, hrun, Result.andThen]
  exact hK _ _ (h v' w' h2 h3)
theorem flatV_cell {M : List Vl} {j : Nat} {u : Value} (h : (flatV M)[j]? = some u) : j / 4 < M.length ∧ (vals (M.getD (j / 4) default))[j % 4]? = some u := by
  have hj : j < M.length * 4 := by have := (List.getElem?_eq_some_iff.1 h).1; rw [flatV_len] at this; exact this
  have hk : j / 4 < M.length := by omega
  have hi : j % 4 < (vals (M.getD (j / 4) default)).length := by simp [vals]; omega
  have hv : (vals (M.getD (j / 4) default))[j % 4]? = some ((vals (M.getD (j / 4) default))[j % 4]) := List.getElem?_eq_getElem hi
  have := flatV_get M (j / 4) hk (j % 4) _ hv
  rw [show j / 4 * 4 + j % 4 = j by omega, h] at this
  exact ⟨hk, by rw [hv]; exact this.symm⟩
theorem flatV_one' (M : List Vl) : ∀ u ∈ flatV M, u.oneCell' = true := fun u hu => by
  obtain ⟨o, _, h⟩ := List.mem_flatMap.1 hu
  exact vals_one o u h
/-- append of a slice of values. -/
theorem run_appVs (w : World) (ty : TypeId) (B : Nat) (v : Value) (L : List Vl) (hown : w.ownsRow B 27 4 v L.length (flatV L)) (A : Option Addr) (m c : Nat) (M : List Vl) (hV : Vs w A m c M) (hL : L.length + M.length ≤ 1000000) (hB : B ≤ w.heap.size) :
    ∃ v' w', (Builtin.append_ #[40, 40] ty #[v, .slice A m c]).run Tryd.prog w = .ok v' w' ∧ w'.ownsRow B 27 4 v' (L ++ M).length (flatV (L ++ M)) ∧ w.grownBy w' v.ownBlock := by
  obtain ⟨i0, hi, hz0, hz1, hz2⟩ := info_parts info_vl
  have hm := hV.len
  rcases A with _ | ad
  · obtain rfl := hV.nil rfl
    obtain rfl : m = 0 := by have := hV.cap; omega
    have hM : M = [] := List.eq_nil_of_length_eq_zero hm.symm
    subst hM
    refine ⟨v, w, ?_, by simpa using hown, World.grownBy.refl w _⟩
    exact run_append_owned_none (P := Tryd.prog) w B 40 ty 27 i0 4 Tryd.underlying40 hi v L.length _ hown
  · have hcells : ∀ j u, (flatV M)[j]? = some u → w.cell? (ad.add j) = some u := by
      intro j u hu
      obtain ⟨hk, hv⟩ := flatV_cell hu
      obtain ⟨b, o, e1, _, hc, _⟩ := hV.at_ (j / 4) hk
      cases e1
      have := hc _ _ hv
      rw [show o + (j / 4 * 4 + j % 4) = o + j by omega] at this
      rw [Addr.add_lit]
      exact this
    obtain ⟨v', w', hrun, h2, h3, _, _⟩ := run_append_own_at (P := Tryd.prog) w B 40 ty 27 i0 _ 4 40 Tryd.underlying40 hi hz0 hz1 hz2 rfl (by decide) v L.length _ hown ad m c (flatV M) (by rw [flatV_len, hm]) hcells (flatV_one' M) (by unfold maxLen; omega) (by omega) hB
    exact ⟨v', w', hrun, by rw [List.length_append, flatV_app, ← hm]; exact h2, h3⟩
theorem wpList_appVs (w : World) {ops : Array Oper} {rest : List Oper} {o : Oper} {a : Act} {Q : Exit → Act → World → Prop} (hgd : o.guard = none) (s x : Operand)
    (ho : o.op = .call { callee := .builtin .append, args := #[s, x], argTypes := #[40, 40] })
    (B : Nat) (v : Value) (L : List Vl) (hs : a.eval s = v) (hown : w.ownsRow B 27 4 v L.length (flatV L)) (A : Option Addr) (m c : Nat) (M : List Vl) (hx : a.eval x = .slice A m c) (hV : Vs w A m c M) (hL : L.length + M.length ≤ 1000000) (hB : B ≤ w.heap.size)
    (h : ∀ v' w', w'.ownsRow B 27 4 v' (L ++ M).length (flatV (L ++ M)) → w.grownBy w' v.ownBlock → wpList Tryd.prog ops Q rest (a.put o.dst v') w') : wpList Tryd.prog ops Q (o :: rest) a w := by
  refine wpList_plain hgd fun K hK => ?_
  obtain ⟨v', w', hrun, h2, h3⟩ := run_appVs w o.type B v L hown A m c M hV hL hB
  unfold Oper.wp
  simp [execOp, ho, resolve, invoke, builtin, hs, hx, hrun, Result.andThen]
  exact hK _ _ (h v' w' h2 h3)
end Wd
end Go.Proofs.YtpappcmgnnmbeaaDoor
namespace Go.Proofs.YtpappcmgnnmbeaaDoor
set_option maxRecDepth 20000
open Go.RowKit
namespace Sx
open Sc (Col Sch tr MayS dec)
open Va (Vl)
theorem v1_of {v : Vl} (h : Sc.Ok v) : Wd.V1 v := by
  obtain ⟨hm, h0, h1⟩ := h
  refine ⟨?_, ?_⟩
  · have : 0 ≤ v.kind ∧ v.kind ≤ 3 := by
      rcases hm with ⟨q, _⟩ | ⟨q, _⟩ | ⟨q, _⟩ | ⟨q, _⟩ <;> omega
    simp [Lit.wf, IntKind.min, IntKind.max, IntKind.signed, IntKind.bits] <;> omega
  · simp [Lit.wf, IntKind.min, IntKind.max, IntKind.signed, IntKind.bits] <;> omega
theorem v1_app {L : List Vl} {v : Vl} (h : ∀ j, j < L.length → Wd.V1 (L.getD j default)) (h1 : Wd.V1 v) : ∀ j, j < (L ++ [v]).length → Wd.V1 ((L ++ [v]).getD j default) := fun j hj => by
  rw [List.length_append, List.length_singleton] at hj
  by_cases q : j < L.length
  · rw [List.getD_eq_getElem?_getD, List.getElem?_append_left q, ← List.getD_eq_getElem?_getD]
    exact h j q
  · obtain rfl : j = L.length := by omega
    simpa using h1
/-- An answer of a row of values and an error's number. -/
def OutV (w : World) (vs : List Vl) (er : Int) (e : Ending) (w' : World) : Prop := ∃ A n c, e = .returned (.tuple #[.slice A n c, .int .i64 er]) ∧ Wd.Vs w' A n c vs ∧ Below w.heap.size w w'
theorem OutV.err (w : World) {w' : World} (er : Int) (h : Below w.heap.size w w') : OutV w [] er (.returned (.tuple #[.slice none 0 0, .int .i64 er])) w' := ⟨none, 0, 0, rfl, Wd.Vs.none_ _, h⟩
/-- What Decode answers. -/
noncomputable def decL (s : Sch) (bs : List Int) : List Vl := if tr (MayS s) = true then (dec s.cols bs).1 else []
noncomputable def decE (s : Sch) (bs : List Int) : Int := if tr (MayS s) = true then (dec s.cols bs).2 else 1
end Sx
end Go.Proofs.YtpappcmgnnmbeaaDoor
namespace Go.Proofs.YtpappcmgnnmbeaaDoor
set_option maxRecDepth 20000
open Go.RowKit
namespace Dx
open Va (Vl May ord)
open Vc (mayB mayB_iff refMay_any)
open Sc (tr tr_yes tr_no tr_iff)
open Dc
/-- An answer of a row of values (the argument's, or a new one), a number and an error's number. -/
def OutA (w : World) (R : Option Addr) (r : List Vl × Int × Int) (e : Ending) (w' : World) : Prop := ∃ A n c, e = .returned (.tuple #[.slice A n c, .int .i64 r.2.1, .int .i64 r.2.2]) ∧ Wd.Vs w' A n c r.1 ∧ Below w.heap.size w w' ∧ (A = R ∨ ∀ a, A = some a → w.heap.size ≤ a.block ∧ a.block < w'.heap.size)
theorem own_loc {w : World} {B : Nat} {e : TypeId} {size k n c : Nat} {A : Option Addr} {xs : List Value} (h : w.ownsRow B e size (.slice A n c) k xs) : ∀ a, A = some a → B ≤ a.block ∧ a.block < w.heap.size := by
  intro a ha
  rcases h.2 with ⟨h', _⟩ | ⟨g', cap', cur, h', hb, hh, _⟩
  · simp only [Value.slice.injEq] at h'
    rw [h'.1] at ha
    cases ha
  · simp only [Value.slice.injEq] at h'
    rw [h'.1] at ha
    cases ha
    exact ⟨hb, lt_of_block hh⟩
theorem lim_len {n : Nat} (k : Int) : lim k ≤ (n : Int) ↔ k ≤ (n : Int) ∨ (4096 : Int) ≤ (n : Int) := by
  unfold lim
  split
  · omega
  · split <;> omega
end Dx
end Go.Proofs.YtpappcmgnnmbeaaDoor
namespace Go.Proofs.YtpappcmgnnmbeaaDoor
set_option maxRecDepth 20000
open Go.RowKit
namespace Wd
open Va (Vl null)
/-- Block g is just the values L, and may be written. -/
def RowV (w : World) (g : Nat) (L : List Vl) : Prop := Wd.Bx w g 27 (flatV L).toArray
theorem flatV_set : ∀ (L : List Vl) (p : Nat) (v : Vl), p < L.length → ((((flatV L).set (p * 4) (.int .i64 v.kind)).set (p * 4 + 1) (.int .i64 v.i)).set (p * 4 + 2) (.string v.s)).set (p * 4 + 3) (.bool v.b) = flatV (L.set p v)
  | [], _, _, h => by simp at h
  | f :: r, 0, v, _ => by
    show ((((Value.int .i64 f.kind :: .int .i64 f.i :: .string f.s :: .bool f.b :: flatV r).set _ _).set _ _).set _ _).set _ _ = Value.int .i64 v.kind :: .int .i64 v.i :: .string v.s :: .bool v.b :: flatV r
    simp
  | f :: r, p + 1, v, h => by
    have ih := flatV_set r p v (by simpa using h)
    have e : flatV (f :: r) = Value.int .i64 f.kind :: .int .i64 f.i :: .string f.s :: .bool f.b :: flatV r := rfl
    have e2 : flatV ((f :: r).set (p + 1) v) = Value.int .i64 f.kind :: .int .i64 f.i :: .string f.s :: .bool f.b :: flatV (r.set p v) := rfl
    rw [e, e2, ← ih, show (p + 1) * 4 = p * 4 + 1 + 1 + 1 + 1 by omega, show p * 4 + 1 + 1 + 1 + 1 + 1 = p * 4 + 1 + 1 + 1 + 1 + 1 from rfl, show p * 4 + 1 + 1 + 1 + 1 + 2 = p * 4 + 2 + 1 + 1 + 1 + 1 by omega, show p * 4 + 1 + 1 + 1 + 1 + 3 = p * 4 + 3 + 1 + 1 + 1 + 1 by omega]
    simp only [List.set_cons_succ]
section
variable {w w' : World} {g : Nat} {L : List Vl}
theorem RowV.lt (h : RowV w g L) : g < w.heap.size := Wd.Bx.lt h
theorem RowV.below {B : Nat} (h : RowV w g L) (hg : g < B) (hb : Below B w w') : RowV w' g L := Wd.Bx.below h hg hb
theorem RowV.drew (h : RowV w g L) : RowV w.drew g L := h
theorem RowV.other (h : RowV w g L) {a : Addr} {u : Value} (ha : g ≠ a.block) : RowV (w.setCell a u) g L := by
  unfold RowV Bx
  rw [heap_setCell_other w a g u ha]
  exact h
/-- The cells of the p-th, and that they may be written. -/
theorem RowV.four (h : RowV w g L) {p : Nat} (hp : p < L.length) : ∃ x : Vl, (w.cell? ⟨g, p * 4, none⟩ = some (.int .i64 x.kind) ∧ w.cell? ⟨g, p * 4 + 1, none⟩ = some (.int .i64 x.i) ∧ w.cell? ⟨g, p * 4 + 2, none⟩ = some (.string x.s) ∧ w.cell? ⟨g, p * 4 + 3, none⟩ = some (.bool x.b))
    ∧ (w.frozen? ⟨g, p * 4, none⟩ = false ∧ w.frozen? ⟨g, p * 4 + 1, none⟩ = false ∧ w.frozen? ⟨g, p * 4 + 2, none⟩ = false ∧ w.frozen? ⟨g, p * 4 + 3, none⟩ = false) := by
  have c : ∀ i v, (vals (L.getD p default))[i]? = some v → w.cell? ⟨g, p * 4 + i, none⟩ = some v := fun i v hv => (Wd.Bx.cell h (p * 4 + i)).trans (by rw [List.getElem?_toArray]; exact flatV_get L p hp i v hv)
  exact ⟨L.getD p default, ⟨c 0 _ rfl, c 1 _ rfl, c 2 _ rfl, c 3 _ rfl⟩, Wd.Bx.free h _, Wd.Bx.free h _, Wd.Bx.free h _, Wd.Bx.free h _⟩
theorem RowV.set (h : RowV w g L) (p : Nat) (hp : p < L.length) (v : Vl) : RowV ((((w.setCell ⟨g, p * 4, none⟩ (.int .i64 v.kind)).setCell ⟨g, p * 4 + 1, none⟩ (.int .i64 v.i)).setCell ⟨g, p * 4 + 2, none⟩ (.string v.s)).setCell ⟨g, p * 4 + 3, none⟩ (.bool v.b)) g (L.set p v) := by
  have h1 := heap_setCell_same w g (p * 4) _ _ (.int .i64 v.kind) h
  have h2 := heap_setCell_same _ g (p * 4 + 1) _ _ (.int .i64 v.i) h1
  have h3 := heap_setCell_same _ g (p * 4 + 2) _ _ (.string v.s) h2
  have h4 := heap_setCell_same _ g (p * 4 + 3) _ _ (.bool v.b) h3
  unfold RowV Bx
  rw [h4, ← flatV_set L p v hp]
  simp
theorem RowV.of_own {base n : Nat} (h : w.ownsRow base 27 4 (.slice (some ⟨g, 0, none⟩) n n) n (flatV L)) : RowV w g L ∧ base ≤ g ∧ n = L.length := by
  have hl : n = L.length := by have := h.1; rw [flatV_len] at this; omega
  rcases h.2 with ⟨h', _⟩ | ⟨g', cap', cur, h', hb, hg, _, _, hs, ht⟩
  · simp at h'
  · simp only [Value.slice.injEq, Option.some.injEq, Addr.mk.injEq, and_true, true_and] at h'
    obtain ⟨rfl, _, rfl⟩ := h'
    refine ⟨?_, hb, hl⟩
    unfold RowV Bx
    rw [hg]
    have : cur = (flatV L).toArray := by
      rw [← ht, List.take_of_length_le (by simp; omega)]
    rw [this]
theorem RowV.vs (h : RowV w g L) (n : Nat) (hn : n = L.length) (hm : n ≤ maxLen) (h1 : ∀ j, j < L.length → V1 (L.getD j default)) : Vs w (some ⟨g, 0, none⟩) n n L :=
  ⟨hn, Nat.le_refl _, hm, by simp, fun j hj => ⟨g, 0, rfl, h.lt, fun i v hv => by rw [Nat.zero_add]; exact (Wd.Bx.cell h (j * 4 + i)).trans (by rw [List.getElem?_toArray]; exact flatV_get L j hj i v hv), h1 j hj⟩⟩
end
theorem made_null (n : Nat) : (madeCells (Value.agg #[.int .i64 0, .int .i64 0, .string ⟨#[]⟩, .bool false]).cells (n * 4)).toList = flatV (List.replicate n null) := by
  refine List.ext_getElem? fun j => ?_
  by_cases hj : j < n * 4
  · have hk : j / 4 < (List.replicate n null).length := by simp; omega
    have e : (List.replicate n null).getD (j / 4) default = null := by simp [List.getD, show j / 4 < n by omega]
    have hi : j % 4 < 4 := Nat.mod_lt _ (by omega)
    have key : ∀ i, i < 4 → (vals null)[i]? = some ((#[Value.int .i64 0, .int .i64 0, .string ⟨#[]⟩, .bool false] : Array Value)[i]!) := by
      intro i hi
      match i, hi with
      | 0, _ => rfl
      | 1, _ => rfl
      | 2, _ => rfl
      | 3, _ => rfl
    have h2 := flatV_get (List.replicate n null) (j / 4) hk (j % 4) _ (by rw [e]; exact key _ hi)
    rw [show j / 4 * 4 + j % 4 = j by omega] at h2
    rw [h2]
    simp [madeCells, Value.cells, hj]
  · rw [List.getElem?_eq_none (by simp [madeCells]; omega), List.getElem?_eq_none (by rw [flatV_len]; simp; omega)]
end Wd
end Go.Proofs.YtpappcmgnnmbeaaDoor
namespace Go.Proofs.YtpappcmgnnmbeaaDoor
set_option maxRecDepth 20000
open Go.RowKit
namespace Dx
open Va (Vl May ord null)
open Sc (tr tr_yes tr_no tr_iff)
open Dc
theorem info_i : (Tryd.prog.info? 3).map (fun i => (i.zero, i.size, i.bytes)) = some (some (.int .i64 0), 1, 8) := by kernel_rfl
/-- An answer of a row of values and a row of numbers. -/
def OutS (w : World) (l : List Vl) (ts : List Int) (e : Ending) (w' : World) : Prop := ∃ A n c B m d, e = .returned (.tuple #[.slice A n c, .slice B m d]) ∧ Wd.Vs w' A n c l ∧ Wd.Sl w' .i64 B m d ts ∧ Below w.heap.size w w'
/-- What is filled behind k rounds. -/
def Fil (l out : List Vl) (k : Nat) : Prop := out.length = l.length ∧ (∀ x ∈ l.take k, out[place l x]? = some x) ∧ ∀ j, j < out.length → Wd.V1 (out.getD j default)
theorem fil_zero {l : List Vl} : Fil l (List.replicate l.length null) 0 := ⟨by simp, fun x hx => by simp at hx, fun j hj => by
  have : (List.replicate l.length null).getD j default = null := by
    have h : j < l.length := by simpa using hj
    simp [List.getD, h]
  rw [this]
  exact Sx.v1_of Sc.ok_null⟩
theorem fil_step {l out : List Vl} {k : Nat} (hm : ∀ x ∈ l, May x) (hn : l.Nodup) (h : Fil l out k) (hk : k < l.length) (h1 : Wd.V1 (l.getD k default)) : Fil l (out.set (place l (l.getD k default)) (l.getD k default)) (k + 1) := by
  have hx : l.getD k default ∈ l := getD_mem hk
  have hp := place_lt hm hn hx
  refine ⟨by simp [h.1], fun y hy => ?_, fun j hj => ?_⟩
  · rw [List.take_add_one, getD_at hk] at hy
    by_cases e : y = l.getD k default
    · rw [e, List.getElem?_set, if_pos rfl, if_pos (by rw [h.1]; exact hp)]
    · have hy' : y ∈ l.take k := by
        rcases List.mem_append.1 hy with q | q
        · exact q
        · exact absurd (by simpa using q) e
      have hyl : y ∈ l := List.mem_of_mem_take hy'
      have hne : place l (l.getD k default) ≠ place l y := fun q => e (by
        have a := srt_place hm hn hx
        have b := srt_place hm hn hyl
        rw [q] at a
        exact Option.some.inj (b.symm.trans a))
      rw [List.getElem?_set, if_neg hne]
      exact h.2.1 y hy'
  · rw [List.length_set] at hj
    by_cases e : j = place l (l.getD k default)
    · subst e
      rw [List.getD_eq_getElem?_getD, List.getElem?_set]
      simp only [if_true, hj]
      exact h1
    · rw [List.getD_eq_getElem?_getD, List.getElem?_set, if_neg (fun q => e q.symm), ← List.getD_eq_getElem?_getD]
      exact h.2.2 j hj
theorem fil_all {l out : List Vl} (hm : ∀ x ∈ l, May x) (hn : l.Nodup) (h : Fil l out l.length) : out = srt l :=
  srt_is hm hn h.1 fun x hx => h.2.1 x (by rw [List.take_length]; exact hx)
theorem tos_getD {l : List Vl} {k : Nat} (hk : k < l.length) : (tos l).getD k 0 = (place l (l.getD k default) : Int) := by
  rw [List.getD_eq_getElem?_getD, tos_at (getD_at hk)]
  rfl
end Dx
end Go.Proofs.YtpappcmgnnmbeaaDoor
namespace Go.Proofs.YtpappcmgnnmbeaaDoor
set_option maxRecDepth 20000
open Go.RowKit
namespace Dx
open Va (Vl May ord null)
open Sc (tr tr_yes tr_no tr_iff)
open Dc
/-- A value as the machine holds it. -/
def ag (v : Vl) : Value := .agg #[.int .i64 v.kind, .int .i64 v.i, .string v.s, .bool v.b]
/-- Values whose numbers are the machine's, and whose texts are no longer than any. -/
def Okv (v : Vl) : Prop := Wd.V1 v ∧ v.s.size ≤ maxLen
variable {D : World → Nat → List Vl → Int → (Nat → Prop) → Prop}
end Dx
end Go.Proofs.YtpappcmgnnmbeaaDoor
namespace Go.Proofs.YtpappcmgnnmbeaaDoor
set_option maxRecDepth 20000
open Go.RowKit Go.Maps
namespace Dt
open Va (Vl May ord null)
open Dc Dx
/-- A pointer to block b. -/
abbrev pt (b : Nat) : Value := .pointer (some ⟨b, 0, none⟩)
theorem own_shape {w : World} {B : Nat} {e : TypeId} {size : Nat} {v : Value} {n : Nat} {xs : List Value} (h : w.ownsRow B e size v n xs) : ∃ A c, v = .slice A n c := by
  rcases h.2 with ⟨rfl, h0⟩ | ⟨g, cap, cur, rfl, _⟩
  · exact ⟨none, 0, by rw [h0]⟩
  · exact ⟨_, _, rfl⟩
theorem zeroI (w : World) : (zeroValue 3).run Tryd.prog w = .ok (.int .i64 0) w := by kernel_rfl
theorem res_cell2 {fn : Func} {p u : Tmp} {ty : TypeId} (h : fn.results = #[.cell p ty, .tmp u]) (tmps : Array Value) (P : Program) (w : World) :
    (results fn tmps).run P w = ((asAddr (tmps.getD p undef)).run P w).andThen fun a w₁ => ((loadVar ty a).run P w₁).andThen fun x w₂ => .ok (.tuple #[x, tmps.getD u undef]) w₂ := by
  simp only [results, h]
  simp [Sem.run_bind, Result.andThen]
section
variable {w : World} {d m : Nat} {v : Value} {L : List Vl} {k : Int} {G : Nat → Prop}
end
end Dt
end Go.Proofs.YtpappcmgnnmbeaaDoor
namespace Go.Proofs.YtpappcmgnnmbeaaDoor
set_option maxRecDepth 20000
open Go.RowKit Go.Maps
namespace Rw
open Va (Vl May null)
open Sc (Sch)
/-- A column in memory: the pointer to its dictionary and the slice of its numbers; the dictionary's record, map, row and blocks. -/
structure Cd where
  dp : Value
  nv : Value
  d : Nat
  m : Nat
  v : Value
  G : Nat → Prop
def Ft (c : Cd) (x : Nat) : Prop := c.G x ∨ c.nv.ownBlock = some x
/-- The cells of n columns. -/
def cc (cd : Nat → Cd) (n : Nat) : List Value := (List.range (n * 2)).map fun j => if j % 2 = 0 then (cd (j / 2)).dp else (cd (j / 2)).nv
def upd {α : Type} (f : Nat → α) (k : Nat) (x : α) (j : Nat) : α := if j = k then x else f j
theorem upd_same {α : Type} (f : Nat → α) (k : Nat) (x : α) : upd f k x k = x := if_pos rfl
theorem upd_other {α : Type} (f : Nat → α) {k j : Nat} (x : α) (h : j ≠ k) : upd f k x j = f j := if_neg h
theorem cc_get (cd : Nat → Cd) {n j : Nat} (h : j < n * 2) : (cc cd n)[j]? = some (if j % 2 = 0 then (cd (j / 2)).dp else (cd (j / 2)).nv) := by
  unfold cc
  rw [List.getElem?_map, List.getElem?_range h]
  rfl
theorem cc_len (cd : Nat → Cd) (n : Nat) : (cc cd n).length = n * 2 := by simp [cc]
theorem cc_dp (cd : Nat → Cd) {n k : Nat} (h : k < n) : (cc cd n).toArray[k * 2]? = some (cd k).dp := by
  rw [List.getElem?_toArray, cc_get cd (by omega), if_pos (by omega), show k * 2 / 2 = k by omega]
theorem cc_nv (cd : Nat → Cd) {n k : Nat} (h : k < n) : (cc cd n).toArray[k * 2 + 1]? = some (cd k).nv := by
  rw [List.getElem?_toArray, cc_get cd (by omega), if_neg (by omega), show (k * 2 + 1) / 2 = k by omega]
theorem cc_set_dp (cd : Nat → Cd) {n k : Nat} (c : Cd) (hn : c.nv = (cd k).nv) (h : k < n) : (cc cd n).toArray.setIfInBounds (k * 2) c.dp = (cc (upd cd k c) n).toArray := by
  rw [List.setIfInBounds_toArray]
  congr 1
  refine List.ext_getElem? fun j => ?_
  rw [List.getElem?_set, cc_len]
  by_cases hj : j < n * 2
  · rw [cc_get cd hj, cc_get _ hj]
    by_cases e : k * 2 = j
    · subst e
      rw [if_pos rfl, if_pos (by omega), if_pos (by omega), show k * 2 / 2 = k by omega, upd_same]
    · rw [if_neg e]
      by_cases q : j / 2 = k
      · rw [q, upd_same, if_neg (by omega), if_neg (by omega), hn]
      · rw [upd_other _ _ q]
  · rw [List.getElem?_eq_none (by rw [cc_len]; omega), List.getElem?_eq_none (by rw [cc_len]; omega)]
    split
    · split <;> first | omega | rfl
    · rfl
theorem cc_set_nv (cd : Nat → Cd) {n k : Nat} (c : Cd) (hn : c.dp = (cd k).dp) (h : k < n) : (cc cd n).toArray.setIfInBounds (k * 2 + 1) c.nv = (cc (upd cd k c) n).toArray := by
  rw [List.setIfInBounds_toArray]
  congr 1
  refine List.ext_getElem? fun j => ?_
  rw [List.getElem?_set, cc_len]
  by_cases hj : j < n * 2
  · rw [cc_get cd hj, cc_get _ hj]
    by_cases e : k * 2 + 1 = j
    · subst e
      rw [if_pos rfl, if_pos (by omega), if_neg (by omega), show (k * 2 + 1) / 2 = k by omega, upd_same]
    · rw [if_neg e]
      by_cases q : j / 2 = k
      · rw [q, upd_same, if_pos (by omega), if_pos (by omega), hn]
      · rw [upd_other _ _ q]
  · rw [List.getElem?_eq_none (by rw [cc_len]; omega), List.getElem?_eq_none (by rw [cc_len]; omega)]
    split
    · split <;> first | omega | rfl
    · rfl
/-- All the blocks that may turn. -/
def Foot (r g n : Nat) (cd : Nat → Cd) (ov : Value) (x : Nat) : Prop := x = r ∨ x = g ∨ ov.ownBlock = some x ∨ ∃ k, k < n ∧ Ft (cd k) x
section
variable {w w' : World} {r g : Nat} {A : Option Addr} {n c : Nat} {s : Sch} {most vals : Int} {q : Nat} {cd : Nat → Cd} {V : Nat → List Vl} {ov : Value} {offs : List Int}
theorem ft_upd {k : Nat} {e : Cd} (j : Nat) (x : Nat) : Ft (upd cd k e j) x ↔ if j = k then Ft e x else Ft (cd j) x := by
  unfold upd
  split <;> rfl
theorem cs_keep {cs : List Sc.Col} (h : Wd.Cs w A n c cs) (hs : w.heap.size ≤ w'.heap.size) (hk : ∀ b o, A = some ⟨b, o, none⟩ → w'.heap[b]? = w.heap[b]?) : Wd.Cs w' A n c cs :=
  ⟨h.len, h.cap, h.max, h.nil, fun j hj => by
    obtain ⟨b, o, e, hlt, hc, h1⟩ := h.at_ j hj
    refine ⟨b, o, e, Nat.lt_of_lt_of_le hlt hs, fun i v hv => ?_, h1⟩
    have := hc i v hv
    have hb := hk b o e
    simp only [World.cell?, hb] at this ⊢
    exact this⟩
theorem vs_keep {vs : List Vl} (h : Wd.Vs w A n c vs) (hs : w.heap.size ≤ w'.heap.size) (hk : ∀ b o, A = some ⟨b, o, none⟩ → w'.heap[b]? = w.heap[b]?) : Wd.Vs w' A n c vs :=
  ⟨h.len, h.cap, h.max, h.nil, fun j hj => by
    obtain ⟨b, o, e, hlt, hc, h1⟩ := h.at_ j hj
    refine ⟨b, o, e, Nat.lt_of_lt_of_le hlt hs, fun i v hv => ?_, h1⟩
    have := hc i v hv
    have hb := hk b o e
    simp only [World.cell?, hb] at this ⊢
    exact this⟩
theorem vs_mv {F : Nat → Prop} {vs : List Vl} (h : Wd.Vs w A n c vs) (mv : Wd.Mv F w w') (hA : ∀ b o, A = some ⟨b, o, none⟩ → ¬ F b) : Wd.Vs w' A n c vs :=
  ⟨h.len, h.cap, h.max, h.nil, fun j hj => by
    obtain ⟨b, o, e, hlt, hc, h1⟩ := h.at_ j hj
    refine ⟨b, o, e, Nat.lt_of_lt_of_le hlt mv.size, fun i v hv => ?_, h1⟩
    have := hc i v hv
    have hb := mv.keep b hlt (hA b o e)
    simp only [World.cell?, hb] at this ⊢
    exact this⟩
end
end Rw
end Go.Proofs.YtpappcmgnnmbeaaDoor
