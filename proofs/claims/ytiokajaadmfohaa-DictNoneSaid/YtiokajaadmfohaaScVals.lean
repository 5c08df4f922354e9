/- Rows of values of the call's own: append of one value, as one step of a list of operations and of a region that draws. Rows of values: what Decode answers; their numbers are the machine's. -/
import Derived.Test.YtiokajaadmfohaaVaOpen
import Derived.Test.YtiokajaadmfohaaVaBase
import Derived.Maps.AppendAt
import Derived.Deep.RegionLaw
import Derived.Test.YtiokajaadmfohaaScMay
namespace Go.Proofs.Ytiokajaadmfohaa
set_option maxRecDepth 20000
open Go.RowKit Go.Maps
namespace Wd
open Va (Vl)
def flatV (L : List Vl) : List Value := L.flatMap vals
theorem flatV_app (L M : List Vl) : flatV (L ++ M) = flatV L ++ flatV M := List.flatMap_append
theorem flatV_one (v : Vl) : flatV [v] = vals v := by simp [flatV]
theorem flatV_len : ∀ L : List Vl, (flatV L).length = L.length * 4
  | [] => rfl
  | f :: r => by show (vals f ++ flatV r).length = _; rw [List.length_append, flatV_len r, List.length_cons]; simp [vals]; omega
theorem flatV_get : ∀ (L : List Vl) (j : Nat), j < L.length → ∀ i v, (vals (L.getD j default))[i]? = some v → (flatV L)[j * 4 + i]? = some v
  | [], _, h, _, _, _ => by simp at h
  | f :: r, 0, _, i, v, hv => by
    show (vals f ++ flatV r)[0 * 4 + i]? = some v
    have hi : i < (vals f).length := (List.getElem?_eq_some_iff.1 (by simpa using hv)).1
    rw [Nat.zero_mul, Nat.zero_add, List.getElem?_append_left hi]
    simpa using hv
  | f :: r, j + 1, h, i, v, hv => by
    have := flatV_get r j (by simpa using h) i v (by simpa using hv)
    show (vals f ++ flatV r)[(j + 1) * 4 + i]? = some v
    rw [List.getElem?_append_right (by simp [vals]; omega)]
    rw [show (j + 1) * 4 + i - (vals f).length = j * 4 + i by simp [vals]; omega]
    exact this
/-- A row of the call's own that holds values, as a slice of such. -/
theorem Vs.of_own {w : World} {base : Nat} {e : TypeId} {v : Value} {n : Nat} {L : List Vl} (h : w.ownsRow base e 4 v n (flatV L)) (h1 : ∀ j, j < L.length → V1 (L.getD j default)) : ∃ A n c, v = .slice A n c ∧ Vs w A n c L := by
  have hl : n = L.length := by have := h.1; rw [flatV_len] at this; omega
  subst hl
  rcases h.2 with ⟨rfl, h0⟩ | ⟨g, cap, cur, rfl, hb, hg, h2, h3, h4, h5⟩
  · have : L = [] := List.eq_nil_of_length_eq_zero h0
    subst this
    exact ⟨none, 0, 0, rfl, Vs.none_ _⟩
  · refine ⟨_, _, _, rfl, ⟨rfl, h2, h3, by simp, fun j hj => ⟨g, 0, rfl, (Array.getElem?_eq_some_iff.1 hg).1, fun i u hu => ?_, h1 j hj⟩⟩⟩
    rw [Nat.zero_add]
    have hi : i < 4 := by have := (List.getElem?_eq_some_iff.1 hu).1; simpa [vals] using this
    exact (h.cellAt (j * 4 + i) (by omega)).trans (flatV_get L j hj i u hu)
theorem info_vl : (Try.prog.info? 24).map (fun i => (i.zero, i.size, i.bytes)) = some (some (.agg #[.int .i64 0, .int .i64 0, .string ⟨#[]⟩, .bool false]), 4, 40) := by kernel_rfl
theorem vals_one (o : Vl) : ∀ u ∈ vals o, u.oneCell' = true := by
  intro u hu
  simp only [vals, List.mem_cons, List.not_mem_nil, or_false] at hu
  rcases hu with rfl | rfl | rfl | rfl <;> rfl
theorem vals_new (w : World) (o : Vl) (cs : Array Value) (hc : cs = (vals o).toArray) : ∀ j u, (vals o)[j]? = some u → (w.alloc (.cells cs 24)).cell? ((⟨w.heap.size, 0, none⟩ : Addr).add j) = some u := by
  intro j u hu
  subst hc
  rw [Addr.add_lit, Nat.zero_add, (Wd.Bx.new w 24 (vals o).toArray).cell j]
  simpa using hu
/-- append of one value. -/
theorem run_appV (w : World) (ty : TypeId) (B : Nat) (v : Value) (L : List Vl) (hown : w.ownsRow B 24 4 v L.length (flatV L)) (ad : Addr) (o : Vl) (hc : ∀ j u, (vals o)[j]? = some u → w.cell? (ad.add j) = some u) (hL : L.length ≤ 1000000) (hB : B ≤ w.heap.size) :
    ∃ v' w', (Builtin.append_ #[22, 22] ty #[v, .slice (some ad) 1 1]).run Try.prog w = .ok v' w' ∧ w'.ownsRow B 24 4 v' (L ++ [o]).length (flatV (L ++ [o])) ∧ w.grownBy w' v.ownBlock := by
  obtain ⟨i0, hi, hz0, hz1, hz2⟩ := info_parts info_vl
  obtain ⟨v', w', hrun, h2, h3, _, _⟩ := run_append_own_at (P := Try.prog) w B 22 ty 24 i0 _ 4 40 Try.underlying22 hi hz0 hz1 hz2 rfl (by decide) v L.length _ hown ad 1 1 (vals o) rfl hc (vals_one o) (by unfold maxLen; omega) (by omega) hB
  exact ⟨v', w', hrun, by rw [List.length_append, flatV_app, flatV_one]; exact h2, h3⟩
theorem step_appV (w : World) {ops : Array Oper} {o : Oper} {a : Act} {K : Act → World → Prop} {Q : Exit → Act → World → Prop} {E : Prop} (hgd : o.guard = none) (s x : Operand)
    (ho : o.op = .call { callee := .builtin .append, args := #[s, x], argTypes := #[22, 22] })
    (B : Nat) (v : Value) (L : List Vl) (hs : a.eval s = v) (hown : w.ownsRow B 24 4 v L.length (flatV L)) (ad : Addr) (y : Vl) (hx : a.eval x = .slice (some ad) 1 1) (hc : ∀ j u, (vals y)[j]? = some u → w.cell? (ad.add j) = some u) (hL : L.length ≤ 1000000) (hB : B ≤ w.heap.size)
    (h : ∀ v' w', w'.ownsRow B 24 4 v' (L ++ [y]).length (flatV (L ++ [y])) → w.grownBy w' v.ownBlock → K (a.put o.dst v') w') : if Region.wanted o (yielded ops a.tmps) = true then Oper.wp Try.prog o a w K Q else E := by
  rw [if_pos (by simp [Region.wanted, hgd])]
  obtain ⟨v', w', hrun, h2, h3⟩ := run_appV w o.type B v L hown ad y hc hL hB
  unfold Oper.wp
  simp [execOp, ho, resolve, invoke, builtin, hs, hx, hrun, Result.andThen]
  exact h v' w' h2 h3
theorem wpList_appV1 (w : World) {ops : Array Oper} {rest : List Oper} {o : Oper} {a : Act} {Q : Exit → Act → World → Prop} (hgd : o.guard = none) (s x : Operand)
    (ho : o.op = .call { callee := .builtin .append, args := #[s, x], argTypes := #[22, 22] })
    (B : Nat) (v : Value) (L : List Vl) (hs : a.eval s = v) (hown : w.ownsRow B 24 4 v L.length (flatV L)) (ad : Addr) (y : Vl) (hx : a.eval x = .slice (some ad) 1 1) (hc : ∀ j u, (vals y)[j]? = some u → w.cell? (ad.add j) = some u) (hL : L.length ≤ 1000000) (hB : B ≤ w.heap.size)
    (h : ∀ v' w', w'.ownsRow B 24 4 v' (L ++ [y]).length (flatV (L ++ [y])) → w.grownBy w' v.ownBlock → wpList Try.prog ops Q rest (a.put o.dst v') w') : wpList Try.prog ops Q (o :: rest) a w := by
  refine wpList_plain hgd fun K hK => ?_
  obtain ⟨v', w', hrun, h2, h3⟩ := run_appV w o.type B v L hown ad y hc hL hB
  unfold Oper.wp
  simp [execOp, ho, resolve, invoke, builtin, hs, hx, hrun, Result.andThen]
  exact hK _ _ (h v' w' h2 h3)
theorem flatV_cell {M : List Vl} {j : Nat} {u : Value} (h : (flatV M)[j]? = some u) : j / 4 < M.length ∧ (vals (M.getD (j / 4) default))[j % 4]? = some u := by
  have hj : j < M.length * 4 := by have := (List.getElem?_eq_some_iff.1 h).1; rw [flatV_len] at this; exact this
  have hk : j / 4 < M.length := by omega
  have hi : j % 4 < (vals (M.getD (j / 4) default)).length := by simp [vals]; omega
  have hv : (vals (M.getD (j / 4) default))[j % 4]? = some ((vals (M.getD (j / 4) default))[j % 4]) := List.getElem?_eq_getElem hi
  have := flatV_get M (j / 4) hk (j % 4) _ hv
  rw [show j / 4 * 4 + j % 4 = j by omega, h] at this
  exact ⟨hk, by rw [hv]; exact this.symm⟩
theorem flatV_one' (M : List Vl) : ∀ u ∈ flatV M, u.oneCell' = true := fun u hu => by
  obtain ⟨o, _, h⟩ := List.mem_flatMap.1 hu
  exact vals_one o u h
/-- append of a slice of values. -/
theorem run_appVs (w : World) (ty : TypeId) (B : Nat) (v : Value) (L : List Vl) (hown : w.ownsRow B 24 4 v L.length (flatV L)) (A : Option Addr) (m c : Nat) (M : List Vl) (hV : Vs w A m c M) (hL : L.length + M.length ≤ 1000000) (hB : B ≤ w.heap.size) :
    ∃ v' w', (Builtin.append_ #[22, 22] ty #[v, .slice A m c]).run Try.prog w = .ok v' w' ∧ w'.ownsRow B 24 4 v' (L ++ M).length (flatV (L ++ M)) ∧ w.grownBy w' v.ownBlock := by
  obtain ⟨i0, hi, hz0, hz1, hz2⟩ := info_parts info_vl
  have hm := hV.len
  rcases A with _ | ad
  · obtain rfl := hV.nil rfl
    obtain rfl : m = 0 := by have := hV.cap; omega
    have hM : M = [] := List.eq_nil_of_length_eq_zero hm.symm
    subst hM
    refine ⟨v, w, ?_, by simpa using hown, World.grownBy.refl w _⟩
    exact run_append_owned_none (P := Try.prog) w B 22 ty 24 i0 4 Try.underlying22 hi v L.length _ hown
  · have hcells : ∀ j u, (flatV M)[j]? = some u → w.cell? (ad.add j) = some u := by
      intro j u hu
      obtain ⟨hk, hv⟩ := flatV_cell hu
      obtain ⟨b, o, e1, _, hc, _⟩ := hV.at_ (j / 4) hk
      cases e1
      have := hc _ _ hv
      rw [show o + (j / 4 * 4 + j % 4) = o + j by omega] at this
      rw [Addr.add_lit]
      exact this
    obtain ⟨v', w', hrun, h2, h3, _, _⟩ := run_append_own_at (P := Try.prog) w B 22 ty 24 i0 _ 4 40 Try.underlying22 hi hz0 hz1 hz2 rfl (by decide) v L.length _ hown ad m c (flatV M) (by rw [flatV_len, hm]) hcells (flatV_one' M) (by unfold maxLen; omega) (by omega) hB
    exact ⟨v', w', hrun, by rw [List.length_append, flatV_app, ← hm]; exact h2, h3⟩
theorem wpList_appVs (w : World) {ops : Array Oper} {rest : List Oper} {o : Oper} {a : Act} {Q : Exit → Act → World → Prop} (hgd : o.guard = none) (s x : Operand)
    (ho : o.op = .call { callee := .builtin .append, args := #[s, x], argTypes := #[22, 22] })
    (B : Nat) (v : Value) (L : List Vl) (hs : a.eval s = v) (hown : w.ownsRow B 24 4 v L.length (flatV L)) (A : Option Addr) (m c : Nat) (M : List Vl) (hx : a.eval x = .slice A m c) (hV : Vs w A m c M) (hL : L.length + M.length ≤ 1000000) (hB : B ≤ w.heap.size)
    (h : ∀ v' w', w'.ownsRow B 24 4 v' (L ++ M).length (flatV (L ++ M)) → w.grownBy w' v.ownBlock → wpList Try.prog ops Q rest (a.put o.dst v') w') : wpList Try.prog ops Q (o :: rest) a w := by
  refine wpList_plain hgd fun K hK => ?_
  obtain ⟨v', w', hrun, h2, h3⟩ := run_appVs w o.type B v L hown A m c M hV hL hB
  unfold Oper.wp
  simp [execOp, ho, resolve, invoke, builtin, hs, hx, hrun, Result.andThen]
  exact hK _ _ (h v' w' h2 h3)
end Wd
end Go.Proofs.Ytiokajaadmfohaa
namespace Go.Proofs.Ytiokajaadmfohaa
set_option maxRecDepth 20000
open Go.RowKit
namespace Sx
open Sc (Col Sch tr MayS dec)
open Va (Vl)
theorem v1_of {v : Vl} (h : Sc.Ok v) : Wd.V1 v := by
  obtain ⟨hm, h0, h1⟩ := h
  refine ⟨?_, ?_⟩
  · have : 0 ≤ v.kind ∧ v.kind ≤ 3 := by
      rcases hm with ⟨q, _⟩ | ⟨q, _⟩ | ⟨q, _⟩ | ⟨q, _⟩ <;> omega
    simp [Lit.wf, IntKind.min, IntKind.max, IntKind.signed, IntKind.bits] <;> omega
  · simp [Lit.wf, IntKind.min, IntKind.max, IntKind.signed, IntKind.bits] <;> omega
theorem v1_app {L : List Vl} {v : Vl} (h : ∀ j, j < L.length → Wd.V1 (L.getD j default)) (h1 : Wd.V1 v) : ∀ j, j < (L ++ [v]).length → Wd.V1 ((L ++ [v]).getD j default) := fun j hj => by
  rw [List.length_append, List.length_singleton] at hj
  by_cases q : j < L.length
  · rw [List.getD_eq_getElem?_getD, List.getElem?_append_left q, ← List.getD_eq_getElem?_getD]
    exact h j q
  · obtain rfl : j = L.length := by omega
    simpa using h1
/-- An answer of a row of values and an error's number. -/
def OutV (w : World) (vs : List Vl) (er : Int) (e : Ending) (w' : World) : Prop := ∃ A n c, e = .returned (.tuple #[.slice A n c, .int .i64 er]) ∧ Wd.Vs w' A n c vs ∧ Below w.heap.size w w'
theorem OutV.err (w : World) {w' : World} (er : Int) (h : Below w.heap.size w w') : OutV w [] er (.returned (.tuple #[.slice none 0 0, .int .i64 er])) w' := ⟨none, 0, 0, rfl, Wd.Vs.none_ _, h⟩
/-- What Decode answers. -/
noncomputable def decL (s : Sch) (bs : List Int) : List Vl := if tr (MayS s) = true then (dec s.cols bs).1 else []
noncomputable def decE (s : Sch) (bs : List Int) : Int := if tr (MayS s) = true then (dec s.cols bs).2 else 1
end Sx
end Go.Proofs.Ytiokajaadmfohaa
