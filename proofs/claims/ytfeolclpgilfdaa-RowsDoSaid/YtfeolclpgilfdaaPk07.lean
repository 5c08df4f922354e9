/- Rows of values of the call's own: append of one value, as one step of a list of operations and of a region that draws. Rows of values: what Decode answers; their numbers are the machine's. What the reference of layer 8 does: Add. A block of values that is known whole: what make leaves, a value stored at a place. What the reference of layer 8 does: Sorted. What the comparisons of layer 1's reference do: Same (bytes), Ints (integers). -/
import Derived.Maps.AppendAt
import Derived.Deep.RegionLaw
import Derived.WalkKit
import Derived.WalkSpells
import Derived.Lib.Hide
import Derived.Deep.QuietTactic
import Derived.BigQuiet
import Derived.Test.YtfeolclpgilfdaaPk02
import Derived.Test.YtfeolclpgilfdaaPk05
import Derived.Test.YtfeolclpgilfdaaPk04
import Derived.Test.YtfeolclpgilfdaaPk06
import Derived.Test.YtfeolclpgilfdaaProg
import Derived.Test.YtfeolclpgilfdaaPk01
namespace Go.Proofs.Ytfeolclpgilfdaa
set_option maxRecDepth 20000
open Go.RowKit Go.Maps
namespace Wd
open Va (Vl)
def flatV (L : List Vl) : List Value := L.flatMap vals
theorem flatV_app (L M : List Vl) : flatV (L ++ M) = flatV L ++ flatV M := List.flatMap_append
theorem flatV_one (v : Vl) : flatV [v] = vals v := by simp [flatV]
theorem flatV_len : ∀ L : List Vl, (flatV L).length = L.length * 4
  | [] => rfl
  | f :: r => by show (vals f ++ flatV r).length = _; rw [List.length_append, flatV_len r, List.length_cons]; simp [vals]; omega
theorem flatV_get : ∀ (L : List Vl) (j : Nat), j < L.length → ∀ i v, (vals (L.getD j default))[i]? = some v → (flatV L)[j * 4 + i]? = some v
  | [], _, h, _, _, _ => by simp at h
  | f :: r, 0, _, i, v, hv => by
    show (vals f ++ flatV r)[0 * 4 + i]? = some v
    have hi : i < (vals f).length := (List.getElem?_eq_some_iff.1 (by simpa using hv)).1
    rw [Nat.zero_mul, Nat.zero_add, List.getElem?_append_left hi]
    simpa using hv
  | f :: r, j + 1, h, i, v, hv => by
    have := flatV_get r j (by simpa using h) i v (by simpa using hv)
    show (vals f ++ flatV r)[(j + 1) * 4 + i]? = some v
    rw [List.getElem?_append_right (by simp [vals]; omega)]
    rw [show (j + 1) * 4 + i - (vals f).length = j * 4 + i by simp [vals]; omega]
    exact this
/-- A row of the call's own that holds values, as a slice of such. -/
theorem Vs.of_own {w : World} {base : Nat} {e : TypeId} {v : Value} {n : Nat} {L : List Vl} (h : w.ownsRow base e 4 v n (flatV L)) (h1 : ∀ j, j < L.length → V1 (L.getD j default)) : ∃ A n c, v = .slice A n c ∧ Vs w A n c L := by
  have hl : n = L.length := by have := h.1; rw [flatV_len] at this; omega
  subst hl
  rcases h.2 with ⟨rfl, h0⟩ | ⟨g, cap, cur, rfl, hb, hg, h2, h3, h4, h5⟩
  · have : L = [] := List.eq_nil_of_length_eq_zero h0
    subst this
    exact ⟨none, 0, 0, rfl, Vs.none_ _⟩
  · refine ⟨_, _, _, rfl, ⟨rfl, h2, h3, by simp, fun j hj => ⟨g, 0, rfl, (Array.getElem?_eq_some_iff.1 hg).1, fun i u hu => ?_, h1 j hj⟩⟩⟩
    rw [Nat.zero_add]
    have hi : i < 4 := by have := (List.getElem?_eq_some_iff.1 hu).1; simpa [vals] using this
    exact (h.cellAt (j * 4 + i) (by omega)).trans (flatV_get L j hj i u hu)
theorem info_vl : (Try.prog.info? 49).map (fun i => (i.zero, i.size, i.bytes)) = some (some (.agg #[.int .i64 0, .int .i64 0, .string ⟨#[]⟩, .bool false]), 4, 40) := by kernel_rfl
theorem vals_one (o : Vl) : ∀ u ∈ vals o, u.oneCell' = true := by
  intro u hu
  simp only [vals, List.mem_cons, List.not_mem_nil, or_false] at hu
  rcases hu with rfl | rfl | rfl | rfl <;> rfl
theorem vals_new (w : World) (o : Vl) (cs : Array Value) (hc : cs = (vals o).toArray) : ∀ j u, (vals o)[j]? = some u → (w.alloc (.cells cs 49)).cell? ((⟨w.heap.size, 0, none⟩ : Addr).add j) = some u := by
  intro j u hu
  subst hc
  rw [Addr.add_lit, Nat.zero_add, (Wd.Bx.new w 49 (vals o).toArray).cell j]
  simpa using hu
/-- append of one value. -/
theorem run_appV (w : World) (ty : TypeId) (B : Nat) (v : Value) (L : List Vl) (hown : w.ownsRow B 49 4 v L.length (flatV L)) (ad : Addr) (o : Vl) (hc : ∀ j u, (vals o)[j]? = some u → w.cell? (ad.add j) = some u) (hL : L.length ≤ 1000000) (hB : B ≤ w.heap.size) :
    ∃ v' w', (Builtin.append_ #[38, 38] ty #[v, .slice (some ad) 1 1]).run Try.prog w = .ok v' w' ∧ w'.ownsRow B 49 4 v' (L ++ [o]).length (flatV (L ++ [o])) ∧ w.grownBy w' v.ownBlock := by
  obtain ⟨i0, hi, hz0, hz1, hz2⟩ := info_parts info_vl
  obtain ⟨v', w', hrun, h2, h3, _, _⟩ := run_append_own_at (P := Try.prog) w B 38 ty 49 i0 _ 4 40 Try.underlying38 hi hz0 hz1 hz2 rfl (by decide) v L.length _ hown ad 1 1 (vals o) rfl hc (vals_one o) (by unfold maxLen; omega) (by omega) hB
  exact ⟨v', w', hrun, by rw [List.length_append, flatV_app, flatV_one]; exact h2, h3⟩
theorem step_appV (w : World) {ops : Array Oper} {o : Oper} {a : Act} {K : Act → World → Prop} {Q : Exit → Act → World → Prop} {E : Prop} (hgd : o.guard = none) (s x : Operand)
    (ho : o.op = .call { callee := .builtin .append, args := #[s, x], argTypes := #[38, 38] })
    (B : Nat) (v : Value) (L : List Vl) (hs : a.eval s = v) (hown : w.ownsRow B 49 4 v L.length (flatV L)) (ad : Addr) (y : Vl) (hx : a.eval x = .slice (some ad) 1 1) (hc : ∀ j u, (vals y)[j]? = some u → w.cell? (ad.add j) = some u) (hL : L.length ≤ 1000000) (hB : B ≤ w.heap.size)
    (h : ∀ v' w', w'.ownsRow B 49 4 v' (L ++ [y]).length (flatV (L ++ [y])) → w.grownBy w' v.ownBlock → K (a.put o.dst v') w') : if Region.wanted o (yielded ops a.tmps) = true then Oper.wp Try.prog o a w K Q else E := by
  rw [if_pos (by simp [Region.wanted, hgd])]
  obtain ⟨v', w', hrun, h2, h3⟩ := run_appV w o.type B v L hown ad y hc hL hB
  unfold Oper.wp
  simp [execOp, ho, resolve, invoke, builtin, hs, hx, hrun, Result.andThen]
  exact h v' w' h2 h3
theorem wpList_appV1 (w : World) {ops : Array Oper} {rest : List Oper} {o : Oper} {a : Act} {Q : Exit → Act → World → Prop} (hgd : o.guard = none) (s x : Operand)
    (ho : o.op = .call { callee := .builtin .append, args := #[s, x], argTypes := #[38, 38] })
    (B : Nat) (v : Value) (L : List Vl) (hs : a.eval s = v) (hown : w.ownsRow B 49 4 v L.length (flatV L)) (ad : Addr) (y : Vl) (hx : a.eval x = .slice (some ad) 1 1) (hc : ∀ j u, (vals y)[j]? = some u → w.cell? (ad.add j) = some u) (hL : L.length ≤ 1000000) (hB : B ≤ w.heap.size)
    (h : ∀ v' w', w'.ownsRow B 49 4 v' (L ++ [y]).length (flatV (L ++ [y])) → w.grownBy w' v.ownBlock → wpList Try.prog ops Q rest (a.put o.dst v') w') : wpList Try.prog ops Q (o :: rest) a w := by
  refine wpList_plain hgd fun K hK => ?_
  obtain ⟨v', w', hrun, h2, h3⟩ := run_appV w o.type B v L hown ad y hc hL hB
  unfold Oper.wp
  simp [execOp, ho, resolve, invoke, builtin, hs, hx, hrun, Result.andThen]
  exact hK _ _ (h v' w' h2 h3)
theorem flatV_cell {M : List Vl} {j : Nat} {u : Value} (h : (flatV M)[j]? = some u) : j / 4 < M.length ∧ (vals (M.getD (j / 4) default))[j % 4]? = some u := by
  have hj : j < M.length * 4 := by have := (List.getElem?_eq_some_iff.1 h).1; rw [flatV_len] at this; exact this
  have hk : j / 4 < M.length := by omega
  have hi : j % 4 < (vals (M.getD (j / 4) default)).length := by simp [vals]; omega
  have hv : (vals (M.getD (j / 4) default))[j % 4]? = some ((vals (M.getD (j / 4) default))[j % 4]) := List.getElem?_eq_getElem hi
  have := flatV_get M (j / 4) hk (j % 4) _ hv
  rw [show j / 4 * 4 + j % 4 = j by omega, h] at this
  exact ⟨hk, by rw [hv]; exact this.symm⟩
theorem flatV_one' (M : List Vl) : ∀ u ∈ flatV M, u.oneCell' = true := fun u hu => by
  obtain ⟨o, _, h⟩ := List.mem_flatMap.1 hu
  exact vals_one o u h
/-- append of a slice of values. -/
theorem run_appVs (w : World) (ty : TypeId) (B : Nat) (v : Value) (L : List Vl) (hown : w.ownsRow B 49 4 v L.length (flatV L)) (A : Option Addr) (m c : Nat) (M : List Vl) (hV : Vs w A m c M) (hL : L.length + M.length ≤ 1000000) (hB : B ≤ w.heap.size) :
    ∃ v' w', (Builtin.append_ #[38, 38] ty #[v, .slice A m c]).run Try.prog w = .ok v' w' ∧ w'.ownsRow B 49 4 v' (L ++ M).length (flatV (L ++ M)) ∧ w.grownBy w' v.ownBlock := by
  obtain ⟨i0, hi, hz0, hz1, hz2⟩ := info_parts info_vl
  have hm := hV.len
  rcases A with _ | ad
  · obtain rfl := hV.nil rfl
    obtain rfl : m = 0 := by have := hV.cap; omega
    have hM : M = [] := List.eq_nil_of_length_eq_zero hm.symm
    subst hM
    refine ⟨v, w, ?_, by simpa using hown, World.grownBy.refl w _⟩
    exact run_append_owned_none (P := Try.prog) w B 38 ty 49 i0 4 Try.underlying38 hi v L.length _ hown
  · have hcells : ∀ j u, (flatV M)[j]? = some u → w.cell? (ad.add j) = some u := by
      intro j u hu
      obtain ⟨hk, hv⟩ := flatV_cell hu
      obtain ⟨b, o, e1, _, hc, _⟩ := hV.at_ (j / 4) hk
      cases e1
      have := hc _ _ hv
      rw [show o + (j / 4 * 4 + j % 4) = o + j by omega] at this
      rw [Addr.add_lit]
      exact this
    obtain ⟨v', w', hrun, h2, h3, _, _⟩ := run_append_own_at (P := Try.prog) w B 38 ty 49 i0 _ 4 40 Try.underlying38 hi hz0 hz1 hz2 rfl (by decide) v L.length _ hown ad m c (flatV M) (by rw [flatV_len, hm]) hcells (flatV_one' M) (by unfold maxLen; omega) (by omega) hB
    exact ⟨v', w', hrun, by rw [List.length_append, flatV_app, ← hm]; exact h2, h3⟩
theorem wpList_appVs (w : World) {ops : Array Oper} {rest : List Oper} {o : Oper} {a : Act} {Q : Exit → Act → World → Prop} (hgd : o.guard = none) (s x : Operand)
    (ho : o.op = .call { callee := .builtin .append, args := #[s, x], argTypes := #[38, 38] })
    (B : Nat) (v : Value) (L : List Vl) (hs : a.eval s = v) (hown : w.ownsRow B 49 4 v L.length (flatV L)) (A : Option Addr) (m c : Nat) (M : List Vl) (hx : a.eval x = .slice A m c) (hV : Vs w A m c M) (hL : L.length + M.length ≤ 1000000) (hB : B ≤ w.heap.size)
    (h : ∀ v' w', w'.ownsRow B 49 4 v' (L ++ M).length (flatV (L ++ M)) → w.grownBy w' v.ownBlock → wpList Try.prog ops Q rest (a.put o.dst v') w') : wpList Try.prog ops Q (o :: rest) a w := by
  refine wpList_plain hgd fun K hK => ?_
  obtain ⟨v', w', hrun, h2, h3⟩ := run_appVs w o.type B v L hown A m c M hV hL hB
  unfold Oper.wp
  simp [execOp, ho, resolve, invoke, builtin, hs, hx, hrun, Result.andThen]
  exact hK _ _ (h v' w' h2 h3)
end Wd
end Go.Proofs.Ytfeolclpgilfdaa
namespace Go.Proofs.Ytfeolclpgilfdaa
set_option maxRecDepth 20000
open Go.RowKit
namespace Sx
open Sc (Col Sch tr MayS dec)
open Va (Vl)
theorem v1_of {v : Vl} (h : Sc.Ok v) : Wd.V1 v := by
  obtain ⟨hm, h0, h1⟩ := h
  refine ⟨?_, ?_⟩
  · have : 0 ≤ v.kind ∧ v.kind ≤ 3 := by
      rcases hm with ⟨q, _⟩ | ⟨q, _⟩ | ⟨q, _⟩ | ⟨q, _⟩ <;> omega
    simp [Lit.wf, IntKind.min, IntKind.max, IntKind.signed, IntKind.bits] <;> omega
  · simp [Lit.wf, IntKind.min, IntKind.max, IntKind.signed, IntKind.bits] <;> omega
theorem v1_app {L : List Vl} {v : Vl} (h : ∀ j, j < L.length → Wd.V1 (L.getD j default)) (h1 : Wd.V1 v) : ∀ j, j < (L ++ [v]).length → Wd.V1 ((L ++ [v]).getD j default) := fun j hj => by
  rw [List.length_append, List.length_singleton] at hj
  by_cases q : j < L.length
  · rw [List.getD_eq_getElem?_getD, List.getElem?_append_left q, ← List.getD_eq_getElem?_getD]
    exact h j q
  · obtain rfl : j = L.length := by omega
    simpa using h1
/-- An answer of a row of values and an error's number. -/
def OutV (w : World) (vs : List Vl) (er : Int) (e : Ending) (w' : World) : Prop := ∃ A n c, e = .returned (.tuple #[.slice A n c, .int .i64 er]) ∧ Wd.Vs w' A n c vs ∧ Below w.heap.size w w'
theorem OutV.err (w : World) {w' : World} (er : Int) (h : Below w.heap.size w w') : OutV w [] er (.returned (.tuple #[.slice none 0 0, .int .i64 er])) w' := ⟨none, 0, 0, rfl, Wd.Vs.none_ _, h⟩
/-- What Decode answers. -/
noncomputable def decL (s : Sch) (bs : List Int) : List Vl := if tr (MayS s) = true then (dec s.cols bs).1 else []
noncomputable def decE (s : Sch) (bs : List Int) : Int := if tr (MayS s) = true then (dec s.cols bs).2 else 1
end Sx
end Go.Proofs.Ytfeolclpgilfdaa
namespace Go.Proofs.Ytfeolclpgilfdaa
set_option maxRecDepth 20000
open Go.RowKit
namespace Dx
open Va (Vl May ord)
open Vc (mayB mayB_iff refMay_any)
open Sc (tr tr_yes tr_no tr_iff)
open Dc
/-- An answer of a row of values (the argument's, or a new one), a number and an error's number. -/
def OutA (w : World) (R : Option Addr) (r : List Vl × Int × Int) (e : Ending) (w' : World) : Prop := ∃ A n c, e = .returned (.tuple #[.slice A n c, .int .i64 r.2.1, .int .i64 r.2.2]) ∧ Wd.Vs w' A n c r.1 ∧ Below w.heap.size w w' ∧ (A = R ∨ ∀ a, A = some a → w.heap.size ≤ a.block ∧ a.block < w'.heap.size)
theorem own_loc {w : World} {B : Nat} {e : TypeId} {size k n c : Nat} {A : Option Addr} {xs : List Value} (h : w.ownsRow B e size (.slice A n c) k xs) : ∀ a, A = some a → B ≤ a.block ∧ a.block < w.heap.size := by
  intro a ha
  rcases h.2 with ⟨h', _⟩ | ⟨g', cap', cur, h', hb, hh, _⟩
  · simp only [Value.slice.injEq] at h'
    rw [h'.1] at ha
    cases ha
  · simp only [Value.slice.injEq] at h'
    rw [h'.1] at ha
    cases ha
    exact ⟨hb, lt_of_block hh⟩
theorem lim_len {n : Nat} (k : Int) : lim k ≤ (n : Int) ↔ k ≤ (n : Int) ∨ (4096 : Int) ≤ (n : Int) := by
  unfold lim
  split
  · omega
  · split <;> omega
end Dx
end Go.Proofs.Ytfeolclpgilfdaa
namespace Go.Proofs.Ytfeolclpgilfdaa
set_option maxRecDepth 20000
open Go.RowKit
namespace Wd
open Va (Vl null)
/-- Block g is just the values L, and may be written. -/
def RowV (w : World) (g : Nat) (L : List Vl) : Prop := Wd.Bx w g 49 (flatV L).toArray
theorem flatV_set : ∀ (L : List Vl) (p : Nat) (v : Vl), p < L.length → ((((flatV L).set (p * 4) (.int .i64 v.kind)).set (p * 4 + 1) (.int .i64 v.i)).set (p * 4 + 2) (.string v.s)).set (p * 4 + 3) (.bool v.b) = flatV (L.set p v)
  | [], _, _, h => by simp at h
  | f :: r, 0, v, _ => by
    show ((((Value.int .i64 f.kind :: .int .i64 f.i :: .string f.s :: .bool f.b :: flatV r).set _ _).set _ _).set _ _).set _ _ = Value.int .i64 v.kind :: .int .i64 v.i :: .string v.s :: .bool v.b :: flatV r
    simp
  | f :: r, p + 1, v, h => by
    have ih := flatV_set r p v (by simpa using h)
    have e : flatV (f :: r) = Value.int .i64 f.kind :: .int .i64 f.i :: .string f.s :: .bool f.b :: flatV r := rfl
    have e2 : flatV ((f :: r).set (p + 1) v) = Value.int .i64 f.kind :: .int .i64 f.i :: .string f.s :: .bool f.b :: flatV (r.set p v) := rfl
    rw [e, e2, ← ih, show (p + 1) * 4 = p * 4 + 1 + 1 + 1 + 1 by omega, show p * 4 + 1 + 1 + 1 + 1 + 1 = p * 4 + 1 + 1 + 1 + 1 + 1 from rfl, show p * 4 + 1 + 1 + 1 + 1 + 2 = p * 4 + 2 + 1 + 1 + 1 + 1 by omega, show p * 4 + 1 + 1 + 1 + 1 + 3 = p * 4 + 3 + 1 + 1 + 1 + 1 by omega]
    simp only [List.set_cons_succ]
section
variable {w w' : World} {g : Nat} {L : List Vl}
theorem RowV.lt (h : RowV w g L) : g < w.heap.size := Wd.Bx.lt h
theorem RowV.below {B : Nat} (h : RowV w g L) (hg : g < B) (hb : Below B w w') : RowV w' g L := Wd.Bx.below h hg hb
theorem RowV.drew (h : RowV w g L) : RowV w.drew g L := h
theorem RowV.other (h : RowV w g L) {a : Addr} {u : Value} (ha : g ≠ a.block) : RowV (w.setCell a u) g L := by
  unfold RowV Bx
  rw [heap_setCell_other w a g u ha]
  exact h
/-- The cells of the p-th, and that they may be written. -/
theorem RowV.four (h : RowV w g L) {p : Nat} (hp : p < L.length) : ∃ x : Vl, (w.cell? ⟨g, p * 4, none⟩ = some (.int .i64 x.kind) ∧ w.cell? ⟨g, p * 4 + 1, none⟩ = some (.int .i64 x.i) ∧ w.cell? ⟨g, p * 4 + 2, none⟩ = some (.string x.s) ∧ w.cell? ⟨g, p * 4 + 3, none⟩ = some (.bool x.b))
    ∧ (w.frozen? ⟨g, p * 4, none⟩ = false ∧ w.frozen? ⟨g, p * 4 + 1, none⟩ = false ∧ w.frozen? ⟨g, p * 4 + 2, none⟩ = false ∧ w.frozen? ⟨g, p * 4 + 3, none⟩ = false) := by
  have c : ∀ i v, (vals (L.getD p default))[i]? = some v → w.cell? ⟨g, p * 4 + i, none⟩ = some v := fun i v hv => (Wd.Bx.cell h (p * 4 + i)).trans (by rw [List.getElem?_toArray]; exact flatV_get L p hp i v hv)
  exact ⟨L.getD p default, ⟨c 0 _ rfl, c 1 _ rfl, c 2 _ rfl, c 3 _ rfl⟩, Wd.Bx.free h _, Wd.Bx.free h _, Wd.Bx.free h _, Wd.Bx.free h _⟩
theorem RowV.set (h : RowV w g L) (p : Nat) (hp : p < L.length) (v : Vl) : RowV ((((w.setCell ⟨g, p * 4, none⟩ (.int .i64 v.kind)).setCell ⟨g, p * 4 + 1, none⟩ (.int .i64 v.i)).setCell ⟨g, p * 4 + 2, none⟩ (.string v.s)).setCell ⟨g, p * 4 + 3, none⟩ (.bool v.b)) g (L.set p v) := by
  have h1 := heap_setCell_same w g (p * 4) _ _ (.int .i64 v.kind) h
  have h2 := heap_setCell_same _ g (p * 4 + 1) _ _ (.int .i64 v.i) h1
  have h3 := heap_setCell_same _ g (p * 4 + 2) _ _ (.string v.s) h2
  have h4 := heap_setCell_same _ g (p * 4 + 3) _ _ (.bool v.b) h3
  unfold RowV Bx
  rw [h4, ← flatV_set L p v hp]
  simp
theorem RowV.of_own {base n : Nat} (h : w.ownsRow base 49 4 (.slice (some ⟨g, 0, none⟩) n n) n (flatV L)) : RowV w g L ∧ base ≤ g ∧ n = L.length := by
  have hl : n = L.length := by have := h.1; rw [flatV_len] at this; omega
  rcases h.2 with ⟨h', _⟩ | ⟨g', cap', cur, h', hb, hg, _, _, hs, ht⟩
  · simp at h'
  · simp only [Value.slice.injEq, Option.some.injEq, Addr.mk.injEq, and_true, true_and] at h'
    obtain ⟨rfl, _, rfl⟩ := h'
    refine ⟨?_, hb, hl⟩
    unfold RowV Bx
    rw [hg]
    have : cur = (flatV L).toArray := by
      rw [← ht, List.take_of_length_le (by simp; omega)]
    rw [this]
theorem RowV.vs (h : RowV w g L) (n : Nat) (hn : n = L.length) (hm : n ≤ maxLen) (h1 : ∀ j, j < L.length → V1 (L.getD j default)) : Vs w (some ⟨g, 0, none⟩) n n L :=
  ⟨hn, Nat.le_refl _, hm, by simp, fun j hj => ⟨g, 0, rfl, h.lt, fun i v hv => by rw [Nat.zero_add]; exact (Wd.Bx.cell h (j * 4 + i)).trans (by rw [List.getElem?_toArray]; exact flatV_get L j hj i v hv), h1 j hj⟩⟩
end
theorem made_null (n : Nat) : (madeCells (Value.agg #[.int .i64 0, .int .i64 0, .string ⟨#[]⟩, .bool false]).cells (n * 4)).toList = flatV (List.replicate n null) := by
  refine List.ext_getElem? fun j => ?_
  by_cases hj : j < n * 4
  · have hk : j / 4 < (List.replicate n null).length := by simp; omega
    have e : (List.replicate n null).getD (j / 4) default = null := by simp [List.getD, show j / 4 < n by omega]
    have hi : j % 4 < 4 := Nat.mod_lt _ (by omega)
    have key : ∀ i, i < 4 → (vals null)[i]? = some ((#[Value.int .i64 0, .int .i64 0, .string ⟨#[]⟩, .bool false] : Array Value)[i]!) := by
      intro i hi
      match i, hi with
      | 0, _ => rfl
      | 1, _ => rfl
      | 2, _ => rfl
      | 3, _ => rfl
    have h2 := flatV_get (List.replicate n null) (j / 4) hk (j % 4) _ (by rw [e]; exact key _ hi)
    rw [show j / 4 * 4 + j % 4 = j by omega] at h2
    rw [h2]
    simp [madeCells, Value.cells, hj]
  · rw [List.getElem?_eq_none (by simp [madeCells]; omega), List.getElem?_eq_none (by rw [flatV_len]; simp; omega)]
end Wd
end Go.Proofs.Ytfeolclpgilfdaa
namespace Go.Proofs.Ytfeolclpgilfdaa
set_option maxRecDepth 20000
open Go.RowKit
namespace Dx
open Va (Vl May ord null)
open Sc (tr tr_yes tr_no tr_iff)
open Dc
theorem info_i : (Try.prog.info? 3).map (fun i => (i.zero, i.size, i.bytes)) = some (some (.int .i64 0), 1, 8) := by kernel_rfl
/-- An answer of a row of values and a row of numbers. -/
def OutS (w : World) (l : List Vl) (to : List Int) (e : Ending) (w' : World) : Prop := ∃ A n c B m d, e = .returned (.tuple #[.slice A n c, .slice B m d]) ∧ Wd.Vs w' A n c l ∧ Wd.Sl w' .i64 B m d to ∧ Below w.heap.size w w'
/-- What is filled behind k rounds. -/
def Fil (l out : List Vl) (k : Nat) : Prop := out.length = l.length ∧ (∀ x ∈ l.take k, out[place l x]? = some x) ∧ ∀ j, j < out.length → Wd.V1 (out.getD j default)
theorem fil_zero {l : List Vl} : Fil l (List.replicate l.length null) 0 := ⟨by simp, fun x hx => by simp at hx, fun j hj => by
  have : (List.replicate l.length null).getD j default = null := by
    have h : j < l.length := by simpa using hj
    simp [List.getD, h]
  rw [this]
  exact Sx.v1_of Sc.ok_null⟩
theorem fil_step {l out : List Vl} {k : Nat} (hm : ∀ x ∈ l, May x) (hn : l.Nodup) (h : Fil l out k) (hk : k < l.length) (h1 : Wd.V1 (l.getD k default)) : Fil l (out.set (place l (l.getD k default)) (l.getD k default)) (k + 1) := by
  have hx : l.getD k default ∈ l := getD_mem hk
  have hp := place_lt hm hn hx
  refine ⟨by simp [h.1], fun y hy => ?_, fun j hj => ?_⟩
  · rw [List.take_add_one, getD_at hk] at hy
    by_cases e : y = l.getD k default
    · rw [e, List.getElem?_set, if_pos rfl, if_pos (by rw [h.1]; exact hp)]
    · have hy' : y ∈ l.take k := by
        rcases List.mem_append.1 hy with q | q
        · exact q
        · exact absurd (by simpa using q) e
      have hyl : y ∈ l := List.mem_of_mem_take hy'
      have hne : place l (l.getD k default) ≠ place l y := fun q => e (by
        have a := srt_place hm hn hx
        have b := srt_place hm hn hyl
        rw [q] at a
        exact Option.some.inj (b.symm.trans a))
      rw [List.getElem?_set, if_neg hne]
      exact h.2.1 y hy'
  · rw [List.length_set] at hj
    by_cases e : j = place l (l.getD k default)
    · subst e
      rw [List.getD_eq_getElem?_getD, List.getElem?_set]
      simp only [if_true, hj]
      exact h1
    · rw [List.getD_eq_getElem?_getD, List.getElem?_set, if_neg (fun q => e q.symm), ← List.getD_eq_getElem?_getD]
      exact h.2.2 j hj
theorem fil_all {l out : List Vl} (hm : ∀ x ∈ l, May x) (hn : l.Nodup) (h : Fil l out l.length) : out = srt l :=
  srt_is hm hn h.1 fun x hx => h.2.1 x (by rw [List.take_length]; exact hx)
theorem tos_getD {l : List Vl} {k : Nat} (hk : k < l.length) : (tos l).getD k 0 = (place l (l.getD k default) : Int) := by
  rw [List.getD_eq_getElem?_getD, tos_at (getD_at hk)]
  rfl
end Dx
end Go.Proofs.Ytfeolclpgilfdaa
namespace Go.Proofs.Ytfeolclpgilfdaa
set_option maxRecDepth 20000
open Go.RowKit
namespace Nc

set_option maxHeartbeats 400000 in
theorem ints_any (A B : Option Addr) (n m c d : Nat) (xs ys : List Int) (w : World) (ha : Wd.Sl w .i64 A n c xs) (hb : Wd.Sl w .i64 B m d ys) :
    Calls Try.prog 38 #[.slice A n c, .slice B m d] w fun e w' => e = .returned (.bool (decide (xs = ys))) ∧ ∃ q, w' = w.drewN q := by
  obtain ⟨rfl, hc, hx, hA, hr⟩ := ha
  obtain ⟨rfl, hd, hy, hB, hs⟩ := hb
  unfold maxLen at hx hy
  by_cases hl : xs.length = ys.length
  · have hne : ((xs.length : Int) != (ys.length : Int)) = false := by rw [hl]; simp
    have Hl := Lib.hid hl
    clear hl
    rcases Nat.eq_zero_or_pos xs.length with h0 | h0
    · have hx0 : xs = [] := List.eq_nil_of_length_eq_zero h0
      have hy0 : ys = [] := List.eq_nil_of_length_eq_zero (by rw [← Hl.out]; exact h0)
      subst hx0
      subst hy0
      go_enter Try.func38, Try.ntmps38
      go_wp2_with fail
      refine wp_loop_rounds 1 ?_
      rw [rounds_succ]
      go_wp2_with fail
      go_ret
      exact ⟨rfl, 0, rfl⟩
    · obtain ⟨a1, o1, rfl, _, hcx⟩ := hr.some_ h0
      obtain ⟨a2, o2, rfl, _, hcy⟩ := hs.some_ (by rw [← Hl.out]; exact h0)
      clear hr hs hA hB
      have hle1 : xs.length ≤ ys.length := by rw [Hl.out]; exact Nat.le_refl _
      have hle2 : ys.length ≤ xs.length := by rw [Hl.out]; exact Nat.le_refl _
      go_enter Try.func38, Try.ntmps38
      go_wp2_with fail
      go_loopw [5] (fun i wr => ∃ (k q : Nat), i = .int .i64 k ∧ k ≤ xs.length ∧ wr = w.drewN q ∧ xs.take k = ys.take k) (fun i _ => xs.length - (intOf i).toNat)
      case atStart => exact ⟨0, 0, rfl, Nat.zero_le _, rfl, rfl⟩
      case round =>
        obtain ⟨k, q, rfl, hk, rfl, ht⟩ := hrel
        have Ht := Lib.hid ht
        clear ht
        by_cases hlt : k < xs.length
        · have hlt2 : k < ys.length := by omega
          have c1 := hcx k hlt
          have c2 := hcy k hlt2
          obtain ⟨x, hx'⟩ : ∃ x, x = xs.getD k 0 := ⟨_, rfl⟩
          obtain ⟨y, hy'⟩ : ∃ y, y = ys.getD k 0 := ⟨_, rfl⟩
          rw [← hx'] at c1
          rw [← hy'] at c2
          have Hx := Lib.hid hx'
          have Hy := Lib.hid hy'
          clear hx' hy' hcx hcy
          have i1 : (k : Int) < (xs.length : Int) := by omega
          have i2 : (k : Int) < (ys.length : Int) := by omega
          by_cases hxy : x = y
          · have hbq : (x != y) = false := by rw [hxy]; simp
            have Hxy := Lib.hid hxy
            clear hxy
            go_wp2_with fail
            go_quiet (fail)
            go_wp2_with fail
            go_roundw
            case rel =>
              refine ⟨k + 1, _, by go_num, by omega, rfl, ?_⟩
              rw [List.take_succ_eq_append_getElem hlt, List.take_succ_eq_append_getElem hlt2, Ht.out]
              have e1 := Hx.out
              have e2 := Hy.out
              simp only [List.getD, List.getElem?_eq_getElem hlt, List.getElem?_eq_getElem hlt2, Option.getD_some] at e1 e2
              rw [← e1, ← e2, Hxy.out]
            case measure => simp [intOf]; omega
          · have hbq : (x != y) = true := by rw [bne_iff_ne]; exact hxy
            have Hxy := Lib.hid hxy
            clear hxy
            go_wp2_with fail
            go_quiet (fail)
            go_wp2_with fail
            go_ret
            refine ⟨?_, _, World.drewN_drewN _ _ _⟩
            rw [decide_eq_false (fun e => Hxy.out (by rw [Hx.out, Hy.out, e]))]
            rfl
        · go_wp2_with fail
          go_ret
          refine ⟨?_, _, rfl⟩
          have := Ht.out
          rw [List.take_of_length_le (by omega), List.take_of_length_le (by omega)] at this
          rw [decide_eq_true this]
          rfl
  · have hne : ((xs.length : Int) != (ys.length : Int)) = true := by rw [bne_iff_ne]; omega
    go_enter Try.func38, Try.ntmps38
    go_wp2_with fail
    go_ret
    refine ⟨?_, 0, rfl⟩
    rw [decide_eq_false (fun e => hl (by rw [e]))]
    rfl
theorem ints_yes (A B : Option Addr) (n m c d : Nat) (xs ys : List Int) (w : World) (ha : Wd.Sl w .i64 A n c xs) (hb : Wd.Sl w .i64 B m d ys) (h : xs = ys) :
    Calls Try.prog 38 #[.slice A n c, .slice B m d] w fun e w' => e = .returned (.bool true) ∧ Below w.heap.size w w' :=
  (ints_any A B n m c d xs ys w ha hb).mono fun _ _ ⟨he, q, hq⟩ => ⟨by rw [he, decide_eq_true h], by rw [hq]; exact Wd.below_drewN (Below.refl _ _) q⟩
end Nc
end Go.Proofs.Ytfeolclpgilfdaa
