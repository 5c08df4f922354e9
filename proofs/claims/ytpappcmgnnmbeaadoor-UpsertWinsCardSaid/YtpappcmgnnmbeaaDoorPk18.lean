/- Package rows: room. Package rows: add, a value more in a column. slices.Clone of columns, and of integers. Package upsert: New. Package upsert: Find, Keys. -/
import Derived.Deep.RegionHeld3
import Derived.WalkArith
import Derived.Test.YtpappcmgnnmbeaaDoorPk16
import Derived.Test.YtpappcmgnnmbeaaDoorPk17
import Derived.Test.YtpappcmgnnmbeaaDoorPk10
import Derived.Test.YtpappcmgnnmbeaaDoorPk11
import Derived.Test.YtpappcmgnnmbeaaDoorPk13
import Derived.Test.YtpappcmgnnmbeaaDoorPk15
namespace Go.Proofs.YtpappcmgnnmbeaaDoor
set_option maxRecDepth 20000
open Go.RowKit
namespace Rw
open Va (Vl May null)
open Sc (Sch FitS fits_get tr tr_yes tr_no tr_iff tr_congr)
theorem okv {v : Vl} (h : Sc.Ok v) : Dx.Okv v := by
  refine ⟨Sx.v1_of h, ?_⟩
  unfold maxLen
  rcases h.1 with q | q | q | q
  · rw [q.2.2.1]; decide
  · rw [q.2.1]; decide
  · have := q.2.2.1; omega
  · rw [q.2.2]; decide
theorem fits_ok {s : Sch} {row : List Vl} (h : FitS s row) {k : Nat} (hk : k < s.cols.length) : Sc.Ok (row.getD k default) := (((fits_get _ _).1 h.2).2 k hk).1
theorem all_succ {p : Nat → Prop} {k : Nat} : (∀ j, j < k + 1 → p j) ↔ (∀ j, j < k → p j) ∧ p k :=
  ⟨fun h => ⟨fun j hj => h j (by omega), h k (by omega)⟩, fun h j hj => by
    by_cases e : j = k
    · rw [e]; exact h.2
    · exact h.1 j (by omega)⟩
end Rw
end Go.Proofs.YtpappcmgnnmbeaaDoor
namespace Go.Proofs.YtpappcmgnnmbeaaDoor
set_option maxRecDepth 20000
open Go.RowKit Go.Maps
namespace Rw
open Va (Vl May null)
open Sc (Sch FitS fits_get tr tr_yes tr_no tr_iff tr_congr)
open Dx (Okv)
open Dc (Dis lim fnd)
theorem info_i : (Tryd.prog.info? 3).map (fun i => (i.zero, i.size, i.bytes)) = some (some (.int .i64 0), 1, 8) := by kernel_rfl
theorem mv_cell {G : Nat → Prop} {w w' : World} {a : Addr} {v : Value} (mv : Wd.Mv G w w') (h : w.cell? a = some v) (hn : ¬ G a.block) : w'.cell? a = some v := by
  have hb := mv.keep a.block (World.block_lt_of_cell? w a h) hn
  simp only [World.cell?, hb] at h ⊢
  exact h
theorem mv_var {G : Nat → Prop} {w w' : World} {p : Nat} {t : TypeId} {v : Value} (mv : Wd.Mv G w w') (h : Wd.Var w p t v) (hn : ¬ G p) : Wd.Var w' p t v := (mv.keep p h.lt hn).trans h
/-- append of one integer: its run, and where the row lies then. -/
theorem run_appI_at (w : World) (ty : TypeId) (B : Nat) (v : Value) (xs : List Int) (hown : w.ownsRow B 3 1 v xs.length (xs.map (Value.int .i64))) (ad : Addr) (o : Int) (hc : w.cell? (ad.add 0) = some (.int .i64 o)) (hL : xs.length ≤ 1000000) (hB : B ≤ w.heap.size) :
    ∃ A c w', (Builtin.append_ #[28, 28] ty #[v, .slice (some ad) 1 1]).run Tryd.prog w = .ok (.slice A (xs.length + 1) c) w' ∧ w'.ownsRow B 3 1 (.slice A (xs.length + 1) c) (xs ++ [o]).length ((xs ++ [o]).map (Value.int .i64)) ∧ w.grownBy w' v.ownBlock ∧ ((Value.slice A (xs.length + 1) c).ownBlock = v.ownBlock ∨ (Value.slice A (xs.length + 1) c).ownBlock = some w.heap.size) := by
  obtain ⟨i0, hi, hz0, hz1, hz2⟩ := info_parts info_i
  obtain ⟨v', w', hrun, h2, h3, _, h5⟩ := run_append_own_at (P := Tryd.prog) w B 28 ty 3 i0 _ 1 8 Tryd.underlying28 hi hz0 hz1 hz2 rfl (by decide) v xs.length _ hown ad 1 1 [.int .i64 o] rfl (fun j u hu => by
    have hj : j < 1 := by simpa using (List.getElem?_eq_some_iff.1 hu).1
    obtain rfl : j = 0 := by omega
    simp only [List.getElem?_cons_zero, Option.some.injEq] at hu
    rw [← hu]
    exact hc) (by simp [Value.oneCell']) (by unfold maxLen; omega) (by omega) hB
  obtain ⟨A, c, rfl⟩ := Dt.own_shape h2
  exact ⟨A, c, w', hrun, by rw [List.length_append, List.map_append]; exact h2, h3, h5⟩
/-- An append of integers whose run is known, in a list of operations. -/
theorem wpList_run {w w' : World} {ops : Array Oper} {rest : List Oper} {o : Oper} {a : Act} {Q : Exit → Act → World → Prop} (hgd : o.guard = none) (s x : Operand) {v : Value}
    (ho : o.op = .call { callee := .builtin .append, args := #[s, x], argTypes := #[28, 28] })
    (hrun : (Builtin.append_ #[28, 28] o.type #[a.eval s, a.eval x]).run Tryd.prog w = .ok v w') (h : wpList Tryd.prog ops Q rest (a.put o.dst v) w') : wpList Tryd.prog ops Q (o :: rest) a w := by
  refine wpList_plain hgd fun K hK => ?_
  unfold Oper.wp
  simp [execOp, ho, resolve, invoke, builtin, hrun, Result.andThen]
  exact hK _ _ h
theorem and5' {w w' : World} {G : Nat → Prop} {a b : Nat} {o : Nat} {x0 y0 y1 y2 y3 : Value} (h : w.cell? ⟨a, o, none⟩ = some x0 ∧ w.cell? ⟨b, 0, none⟩ = some y0 ∧ w.cell? ⟨b, 1, none⟩ = some y1 ∧ w.cell? ⟨b, 2, none⟩ = some y2 ∧ w.cell? ⟨b, 3, none⟩ = some y3)
    (mv : Wd.Mv G w w') (ha : ¬ G a) (hb : ¬ G b) : w'.cell? ⟨a, o, none⟩ = some x0 ∧ w'.cell? ⟨b, 0, none⟩ = some y0 ∧ w'.cell? ⟨b, 1, none⟩ = some y1 ∧ w'.cell? ⟨b, 2, none⟩ = some y2 ∧ w'.cell? ⟨b, 3, none⟩ = some y3 :=
  ⟨mv_cell mv h.1 ha, mv_cell mv h.2.1 hb, mv_cell mv h.2.2.1 hb, mv_cell mv h.2.2.2.1 hb, mv_cell mv h.2.2.2.2 hb⟩
end Rw
end Go.Proofs.YtpappcmgnnmbeaaDoor
namespace Go.Proofs.YtpappcmgnnmbeaaDoor
set_option maxRecDepth 20000
open Go.RowKit Go.Maps
namespace Wd
open Sc (Col Sch)
def flatC (L : List Col) : List Value := L.flatMap colVals
theorem flatC_len : ∀ L : List Col, (flatC L).length = L.length * 3
  | [] => rfl
  | f :: r => by show (colVals f ++ flatC r).length = _; rw [List.length_append, flatC_len r, List.length_cons]; simp [colVals]; omega
theorem flatC_get : ∀ (L : List Col) (j : Nat), j < L.length → ∀ i v, (colVals (L.getD j default))[i]? = some v → (flatC L)[j * 3 + i]? = some v
  | [], _, h, _, _, _ => by simp at h
  | f :: r, 0, _, i, v, hv => by
    show (colVals f ++ flatC r)[0 * 3 + i]? = some v
    have hi : i < (colVals f).length := (List.getElem?_eq_some_iff.1 (by simpa using hv)).1
    rw [Nat.zero_mul, Nat.zero_add, List.getElem?_append_left hi]
    simpa using hv
  | f :: r, j + 1, h, i, v, hv => by
    have := flatC_get r j (by simpa using h) i v (by simpa using hv)
    show (colVals f ++ flatC r)[(j + 1) * 3 + i]? = some v
    rw [List.getElem?_append_right (by simp [colVals]; omega)]
    rw [show (j + 1) * 3 + i - (colVals f).length = j * 3 + i by simp [colVals]; omega]
    exact this
theorem flatC_cell {M : List Col} {j : Nat} {u : Value} (h : (flatC M)[j]? = some u) : j / 3 < M.length ∧ (colVals (M.getD (j / 3) default))[j % 3]? = some u := by
  have hj : j < M.length * 3 := by have := (List.getElem?_eq_some_iff.1 h).1; rw [flatC_len] at this; exact this
  have hk : j / 3 < M.length := by omega
  have hi : j % 3 < (colVals (M.getD (j / 3) default)).length := by simp [colVals]; omega
  have hv : (colVals (M.getD (j / 3) default))[j % 3]? = some ((colVals (M.getD (j / 3) default))[j % 3]) := List.getElem?_eq_getElem hi
  have := flatC_get M (j / 3) hk (j % 3) _ hv
  rw [show j / 3 * 3 + j % 3 = j by omega, h] at this
  exact ⟨hk, by rw [hv]; exact this.symm⟩
theorem flatC_one (M : List Col) : ∀ u ∈ flatC M, u.oneCell' = true := fun u hu => by
  obtain ⟨o, _, h⟩ := List.mem_flatMap.1 hu
  simp only [colVals, List.mem_cons, List.not_mem_nil, or_false] at h
  rcases h with rfl | rfl | rfl <;> rfl
/-- A row of the call's own that holds columns, as a slice of such. -/
theorem Cs.of_own {w : World} {base : Nat} {e : TypeId} {v : Value} {n : Nat} {L : List Col} (h : w.ownsRow base e 3 v n (flatC L)) (h1 : ∀ j, j < L.length → Col1 (L.getD j default)) : ∃ A n c, v = .slice A n c ∧ Cs w A n c L := by
  have hl : n = L.length := by have := h.1; rw [flatC_len] at this; omega
  subst hl
  rcases h.2 with ⟨rfl, h0⟩ | ⟨g, cap, cur, rfl, hb, hg, h2, h3, h4, h5⟩
  · have : L = [] := List.eq_nil_of_length_eq_zero h0
    subst this
    exact ⟨none, 0, 0, rfl, Cs.none_ _⟩
  · refine ⟨_, _, _, rfl, ⟨rfl, h2, h3, by simp, fun j hj => ⟨g, 0, rfl, (Array.getElem?_eq_some_iff.1 hg).1, fun i u hu => ?_, h1 j hj⟩⟩⟩
    rw [Nat.zero_add]
    have hi : i < 3 := by have := (List.getElem?_eq_some_iff.1 hu).1; simpa [colVals] using this
    exact (h.cellAt (j * 3 + i) (by omega)).trans (flatC_get L j hj i u hu)
theorem info_col : (Tryd.prog.info? 71).map (fun i => (i.zero, i.size, i.bytes)) = some (some (.agg #[.string ⟨#[]⟩, .int .i64 0, .bool false]), 3, 32) := by kernel_rfl
theorem wpList_appCs (w : World) {ops : Array Oper} {rest : List Oper} {o : Oper} {a : Act} {Q : Exit → Act → World → Prop} (hgd : o.guard = none) (s x : Operand)
    (ho : o.op = .call { callee := .builtin .append, args := #[s, x], argTypes := #[22, 22] })
    (B : Nat) (v : Value) (hs : a.eval s = v) (hown : w.ownsRow B 71 3 v 0 []) (ad : Addr) (m c : Nat) (M : List Col) (hx : a.eval x = .slice (some ad) m c) (hV : Cs w (some ad) m c M) (hL : M.length ≤ 1000000) (hB : B ≤ w.heap.size)
    (h : ∀ v' w', w'.ownsRow B 71 3 v' M.length (flatC M) → w.grownBy w' v.ownBlock → wpList Tryd.prog ops Q rest (a.put o.dst v') w') : wpList Tryd.prog ops Q (o :: rest) a w := by
  refine wpList_plain hgd fun K hK => ?_
  obtain ⟨i0, hi, hz0, hz1, hz2⟩ := info_parts info_col
  have hm := hV.len
  have hcells : ∀ j u, (flatC M)[j]? = some u → w.cell? (ad.add j) = some u := by
    intro j u hu
    obtain ⟨hk, hv⟩ := flatC_cell hu
    obtain ⟨b, o, e1, _, hc, _⟩ := hV.at_ (j / 3) hk
    cases e1
    have := hc _ _ hv
    rw [show o + (j / 3 * 3 + j % 3) = o + j by omega] at this
    rw [Addr.add_lit]
    exact this
  obtain ⟨v', w', hrun, h2, h3, _, _⟩ := run_append_own_at (P := Tryd.prog) w B 22 o.type 71 i0 _ 3 32 Tryd.underlying22 hi hz0 hz1 hz2 rfl (by decide) v 0 _ hown ad m c (flatC M) (by rw [flatC_len, hm]) hcells (flatC_one M) (by unfold maxLen; omega) (by omega) hB
  unfold Oper.wp
  simp [execOp, ho, resolve, invoke, builtin, hs, hx, hrun, Result.andThen]
  exact hK _ _ (h v' w' (by rw [← hm]; simpa using h2) h3)
end Wd
namespace Rw
open Sc (Col Sch)
theorem cloneC_any (R : Option Addr) (m c : Nat) (L : List Col) (w : World) (hV : Wd.Cs w R m c L) (hL : L.length ≤ 4096) (h0 : 0 < L.length) :
    Calls Tryd.prog 34 #[.slice R m c] w fun e w' => ∃ v, e = .returned v ∧ w'.ownsRow w.heap.size 71 3 v L.length (Wd.flatC L) ∧ Below w.heap.size w w' := by
  obtain ⟨b, o, rfl, -⟩ := hV.at_ 0 h0
  have hnil : ∀ (w : World) (n c : Nat) , (binOp .eql 22 (.slice (some ⟨b, o, none⟩) n c) (.slice none 0 0)).run Tryd.prog w = .ok (.bool false) w := fun _ _ _ => by kernel_rfl
  have hb := (Below.refl w.heap.size w).alloc (Nat.le_refl _) (.cells #[] 71)
  have HV := Lib.hid (hV.below hb)
  have ho := World.ownsRow_lit (e := 71) (size := 3) (base := w.heap.size) w #[] 0 (Nat.le_refl _) (by simp [maxLen]) rfl
  clear hV
  go_enter Tryd.func34, Tryd.ntmps34
  go_wp2_with (at_builtin; refine Wd.wpList_appCs _ rfl (.tmp 5) (.tmp 6) rfl w.heap.size (.slice (some ⟨w.heap.size, 0, none⟩) 0 0) rfl ho ⟨b, o, none⟩ m c L rfl HV.out (by omega) (by simp) ?_; intro v' w1 hown hg)
  go_ret
  exact ⟨v', rfl, hown, hb.grown hg (by simp) (by simp [Value.ownBlock])⟩
end Rw
end Go.Proofs.YtpappcmgnnmbeaaDoor
namespace Go.Proofs.YtpappcmgnnmbeaaDoor
set_option maxRecDepth 20000
open Go.RowKit Go.Maps
namespace Up
open Va (Vl)
open Sc (Sch FitS MayS tr tr_yes tr_no)
/-- A table of the rows L. -/
def Tbl (w : World) (t : Nat) (s : Sch) (L : List Rw) (N : Nat) (F : Nat → Prop) : Prop :=
  ∃ A n c bd bw bs nd nw fd fw, Lay w t A n c s bd bw bs nd nw (keysN (kdS s) L) fd fw (fun v => (win (kdS s) L v).map Rw.seg) (win (kdS s) L) (docsL L) N F ∧ Okl L ∧ MayS s ∧ n ≤ 8
theorem Tbl.below {w w' : World} {t : Nat} {s : Sch} {L : List Rw} {N : Nat} {F : Nat → Prop} (h : Tbl w t s L N F) (hb : Below w.heap.size w w') : Tbl w' t s L N F := by
  obtain ⟨A, n, c, bd, bw, bs, nd, nw, fd, fw, hl, r⟩ := h
  exact ⟨A, n, c, bd, bw, bs, nd, nw, fd, fw, hl.below hb, r⟩
theorem Tbl.keep {w w' : World} {t : Nat} {s : Sch} {L : List Rw} {N : Nat} {F H : Nat → Prop} (h : Tbl w t s L N F) (hH : Alien w H) (mv : Wd.Mv H w w') (hF : ∀ x, F x → ¬ H x) : Tbl w' t s L N F := by
  obtain ⟨A, n, c, bd, bw, bs, nd, nw, fd, fw, hl, r⟩ := h
  exact ⟨A, n, c, bd, bw, bs, nd, nw, fd, fw, hl.keep hH mv hF, r⟩
theorem Tbl.alien {w : World} {t : Nat} {s : Sch} {L : List Rw} {N : Nat} {F : Nat → Prop} (h : Tbl w t s L N F) : Alien w F := by
  obtain ⟨A, n, c, bd, bw, bs, nd, nw, fd, fw, hl, r⟩ := h
  exact hl.alien
theorem Tbl.lt {w : World} {t : Nat} {s : Sch} {L : List Rw} {N : Nat} {F : Nat → Prop} (h : Tbl w t s L N F) {x : Nat} (hx : F x) : x < w.heap.size := by
  obtain ⟨A, n, c, bd, bw, bs, nd, nw, fd, fw, hl, r⟩ := h
  exact hl.lt hx
theorem cs_len {w : World} {A : Option Addr} {n c : Nat} {s : Sch} (h : Wd.Cs w A n c s.cols) (hM : MayS s) : n ≤ 8 := by
  have := h.len
  have := hM.2.1
  omega
theorem tbl_new {w : World} {A : Option Addr} {n c : Nat} {s : Sch} (hS : Wd.Cs w A n c s.cols) (hM : MayS s) :
    Tbl ((((w.alloc (.map #[] 0)).alloc (.map #[] 0)).alloc (.map #[] 0)).alloc (.cells #[.slice A n c, .int .i64 s.key, .int .i64 s.cmp, .int .i64 s.del, .int .i64 s.sort, .map (some w.heap.size), .map (some (w.heap.size + 1)), .map (some (w.heap.size + 1 + 1))] 78)) (w.heap.size + 1 + 1 + 1) s [] 0
      (fun x => x = w.heap.size ∨ x = w.heap.size + 1 ∨ x = w.heap.size + 1 + 1 ∨ x = w.heap.size + 1 + 1 + 1) := by
  have g := fun (w : World) (o : Obj) => World.grownBy_alloc w o none
  have h1 := Mp.made (K := kI) w
  have h2 := Mp.made (K := kI) (w.alloc (.map #[] 0))
  have h3 := Mp.made (K := kV) ((w.alloc (.map #[] 0)).alloc (.map #[] 0))
  simp only [World.size_alloc] at h2 h3
  have e0 : ∀ v : Vl, win (kdS s) [] v = none := win_nil _
  have ek : keysN (kdS s) [] = 0 := by unfold keysN; split <;> rfl
  refine ⟨A, n, c, w.heap.size, w.heap.size + 1, w.heap.size + 1 + 1, 0, 0, fun _ => none, fun _ => none, ⟨?_, ?_, ?_, ?_, ?_, fun _ => rfl, fun q v => ?_, ⟨by omega, by omega, by omega⟩, fun _ _ _ h => (by cases h), ⟨.inr (.inr (.inr rfl)), .inl rfl, .inr (.inl rfl), .inr (.inr (.inl rfl))⟩, ?_, by rw [ek]; simp⟩, okl_nil, hM, cs_len hS hM⟩
  · have := Wd.Bx.new (((w.alloc (.map #[] 0)).alloc (.map #[] 0)).alloc (.map #[] 0)) 78 #[.slice A n c, .int .i64 s.key, .int .i64 s.cmp, .int .i64 s.del, .int .i64 s.sort, .map (some w.heap.size), .map (some (w.heap.size + 1)), .map (some (w.heap.size + 1 + 1))]
    simpa using this
  · exact hS.below (((((Below.refl w.heap.size w).alloc (Nat.le_refl _) _).alloc (by simp) _).alloc (by simp; omega) _).alloc (by simp; omega) _)
  · exact ((h1.grown (g _ _) (by simp)).grown (g _ _) (by simp)).grown (g _ _) (by simp)
  · exact (h2.grown (g _ _) (by simp)).grown (g _ _) (by simp)
  · rw [ek]
    exact (h3.grown (g _ _) (by simp)).congr (fun x _ => by rw [e0]; rfl) (fun x h => by rw [e0] at h; cases h)
  · unfold inn
    rw [e0]
  · rintro x (h | h | h | h)
    · exact .inr (.inl h)
    · exact .inr (.inr (.inl h))
    · exact .inr (.inr (.inr (.inl h)))
    · exact .inl h
set_option maxHeartbeats 4000000 in
theorem new_any {w : World} {A : Option Addr} {n c : Nat} {s : Sch} (hS : Wd.Cs w A n c s.cols) (hn : n ≤ 1000000) :
    Calls Tryd.prog 13 #[.agg #[.slice A n c, .int .i64 s.key, .int .i64 s.cmp, .int .i64 s.del, .int .i64 s.sort]] w fun e w' => Below w.heap.size w w' ∧ ((¬ MayS s ∧ e = .returned (.tuple #[.pointer none, .int .i64 1])) ∨
      (MayS s ∧ ∃ t F, e = .returned (.tuple #[.pointer (some ⟨t, 0, none⟩), .int .i64 0]) ∧ Tbl w' t s [] 0 F ∧ ∀ x, F x → w.heap.size ≤ x)) := by
  have hb := (Below.refl w.heap.size w).alloc (Nat.le_refl _) (.cells #[.slice A n c, .int .i64 s.key, .int .i64 s.cmp, .int .i64 s.del, .int .i64 s.sort] 24)
  have s0 : Sx.Sb (w.alloc (.cells #[.slice A n c, .int .i64 s.key, .int .i64 s.cmp, .int .i64 s.del, .int .i64 s.sort] 24)) w.heap.size A n c s.key s.cmp s.del s.sort := Wd.Bx.new w _ _
  have Cm := Lib.hid (Sx.May_any A n c s _ (hS.below hb) hn)
  have HS := Lib.hid (hS.below hb)
  have Hb := Lib.hid hb
  have Hs := Lib.hid s0
  have hmm := @run_makeMap Tryd.prog
  clear hS hb
  obtain ⟨p0, p1, p2, p3, p4⟩ := Sx.five s0
  by_cases hM : MayS s
  case neg =>
    rw [tr_no hM] at Cm
    have Hno := Lib.hid hM
    clear hM s0
    go_enter Tryd.func13, Tryd.ntmps13
    go_wp2_with (with_reducible refine (Cm.out).mono ?_; rintro e w1 ⟨rfl, hb1⟩)
    go_ret2
    exact ⟨Hb.out.trans (hb1.mono (by simp)), .inl ⟨Hno.out, rfl⟩⟩
  case pos =>
    rw [tr_yes hM] at Cm
    have Hno := Lib.hid hM
    have h8 := cs_len HS.out hM
    have hpos : 0 < s.cols.length := hM.1
    clear hM s0
    have hz0 : w.heap.size < (w.alloc (.cells #[.slice A n c, .int .i64 s.key, .int .i64 s.cmp, .int .i64 s.del, .int .i64 s.sort] 24)).heap.size := by simp
    go_enter Tryd.func13, Tryd.ntmps13
    go_wp2_with fail
    generalize hW : w.alloc (.cells #[.slice A n c, .int .i64 s.key, .int .i64 s.cmp, .int .i64 s.del, .int .i64 s.sort] 24) = W at *
    clear hW
    have Cc := Lib.hid fun (w1 : World) (hb1 : Below W.heap.size W w1) => _root_.Go.Proofs.YtpappcmgnnmbeaaDoor.Rw.cloneC_any A n c s.cols w1 (HS.out.below hb1) (by have := HS.out.len; omega) hpos
    refine (Cm.out).mono ?_
    rintro e w1 ⟨rfl, hb1⟩
    have s1 : Sx.Sb w1 w.heap.size A n c s.key s.cmp s.del s.sort := Wd.Bx.below Hs.out hz0 hb1
    obtain ⟨q0, q1, q2, q3, q4⟩ := Sx.five s1
    clear p0 p1 p2 p3 p4
    go_wp2_with fail
    refine (Cc.out _ hb1).mono ?_
    rintro e w2 ⟨v, rfl, ho2, hb2⟩
    obtain ⟨A2, n2, c2, rfl, hS2⟩ := Wd.Cs.of_own ho2 (fun j hj => by obtain ⟨_, _, _, _, _, h1⟩ := HS.out.at_ j hj; exact h1)
    have hz1 : w.heap.size < w1.heap.size := Nat.lt_of_lt_of_le hz0 hb1.size
    have s2 : Wd.Bx w2 w.heap.size 24 #[.slice A n c, .int .i64 s.key, .int .i64 s.cmp, .int .i64 s.del, .int .i64 s.sort] := Wd.Bx.below s1 hz1 hb2
    have hz2 : w.heap.size < w2.heap.size := Nat.lt_of_lt_of_le hz1 hb2.size
    have hS3 := Lib.hid hS2
    have hb2' := Lib.hid (hb1.trans (hb2.mono hb1.size))
    clear q0 q1 q2 q3 q4 s1 ho2 hb1 hb2 hS2 Cc Cm hz0 hz1
    obtain ⟨q0, q1, q2, q3, q4⟩ := Sx.five s2
    have hfz := s2.free
    have s2 := Lib.hid s2
    go_wp2_with fail
    go_ret2
    have s2' : Wd.Bx w2 w.heap.size 24 (List.toArray [.slice A n c, .int .i64 s.key, .int .i64 s.cmp, .int .i64 s.del, .int .i64 s.sort]) := s2.out
    have hal : Alien w2 (fun x => x = w.heap.size) := by
      rintro x rfl
      exact alien_bx s2' (by simp)
    have mv : Wd.Mv (fun x => x = w.heap.size) w2 (w2.setCell ⟨w.heap.size, 0, none⟩ (.slice A2 n2 c2)) := Wd.Mv.set (G := fun x => x = w.heap.size) (a := ⟨w.heap.size, 0, none⟩) (Wd.Mv.refl _ _) rfl _
    have hT := tbl_new (cs_alien hS3.out hal mv) Hno.out
    have hsz : (w2.setCell ⟨w.heap.size, 0, none⟩ (.slice A2 n2 c2)).heap.size = w2.heap.size := by simp
    have hbf : Below w.heap.size w (w2.setCell ⟨w.heap.size, 0, none⟩ (.slice A2 n2 c2)) := (Hb.out.trans (hb2'.out.mono Hb.out.size)).setCell (Nat.le_refl _) _
    rw [hsz] at hT
    refine ⟨(((hbf.alloc hbf.size _).alloc (by simp; omega) _).alloc (by simp; omega) _).alloc (by simp; omega) _, .inr ⟨Hno.out, _, _, rfl, hT, fun x hx => ?_⟩⟩
    have := hz2
    rcases hx with h | h | h | h <;> omega
end Up
end Go.Proofs.YtpappcmgnnmbeaaDoor
namespace Go.Proofs.YtpappcmgnnmbeaaDoor
set_option maxRecDepth 20000
open Go.RowKit Go.Maps
namespace Up
open Va (Vl)
open Sc (Sch FitS MayS tr tr_yes tr_no)
def zr : Rw := ⟨⟨0, 0, ⟨#[]⟩, false⟩, 0, false, 0, 0, 0⟩
/-- The winner, or nothing. -/
def best (W : Vl → Option Rw) (v : Vl) : Rw := (W v).getD zr
/-- Winners are in segments that may be. -/
def SegOk (W : Vl → Option Rw) : Prop := ∀ v r, W v = some r → 0 ≤ r.seg ∧ r.seg ≤ 1073741824
theorem Okl.segOk {L : List Rw} (h : Okl L) (kd : Bool) : SegOk (win kd L) := fun v r hr => by
  have := (h.rng r (win_mem hr).1).1
  exact ⟨this.1, this.2.1⟩
section
variable {w w' : World} {t : Nat} {A : Option Addr} {n c : Nat} {s : Sch} {bd bw bs nd nw ns : Nat} {fd fw : Int → Option Value} {W : Vl → Option Rw} {Dc : Int → List Int} {N : Nat} {F : Nat → Prop}
theorem inn_yes {v : Vl} {r : Rw} (h : W v = some r) : inn W r.seg v = some (wv r) := by
  unfold inn
  rw [h]
  exact if_pos rfl
theorem inn_no {v : Vl} (h : W v = none) (g : Int) : inn W g v = none := by
  unfold inn
  rw [h]
theorem wf_zero : (Lit.int .i64 0).wf = true := by decide
theorem wf_seg {x : Int} (h : 0 ≤ x ∧ x ≤ 1099511627776) : (Lit.int .i64 x).wf = true := by
  exact WalkArith.wf_i64 (by omega)
/-- The cells of a winner's block. -/
theorem winc {w : World} {g : Nat} {a b c d : Int} {e : Bool} (h : Wd.Bx w g 47 #[.int .i64 a, .int .i64 b, .int .i64 c, .int .i64 d, .bool e]) :
    w.cell? ⟨g, 0, none⟩ = some (.int .i64 a) ∧ w.cell? ⟨g, 1, none⟩ = some (.int .i64 b) ∧ w.cell? ⟨g, 2, none⟩ = some (.int .i64 c) ∧ w.cell? ⟨g, 3, none⟩ = some (.int .i64 d) ∧ w.cell? ⟨g, 4, none⟩ = some (.bool e) :=
  ⟨h.cell 0, h.cell 1, h.cell 2, h.cell 3, h.cell 4⟩
theorem bel5 {B g : Nat} {w0 w : World} (h : Below B w0 w) (hg : B ≤ g) (v0 v1 v2 v3 v4 : Value) :
    Below B w0 (((((w.setCell ⟨g, 0, none⟩ v0).setCell ⟨g, 1, none⟩ v1).setCell ⟨g, 2, none⟩ v2).setCell ⟨g, 3, none⟩ v3).setCell ⟨g, 4, none⟩ v4) :=
  ((((h.setCell (p := ⟨g, 0, none⟩) hg _).setCell (p := ⟨g, 1, none⟩) hg _).setCell (p := ⟨g, 2, none⟩) hg _).setCell (p := ⟨g, 3, none⟩) hg _).setCell (p := ⟨g, 4, none⟩) hg _
/-- What the three lookups of Find give. -/
theorem looks (h : Lay w t A n c s bd bw bs nd nw ns fd fw (fun v => (W v).map Rw.seg) W Dc N F) (hO : SegOk W) {v : Vl} (hv : kV.ok v) : ∃ (g : Int) (mv : Option Nat), (Lit.int .i64 g).wf = true ∧
    (∀ {e : World}, Below w.heap.size w e → (Instr.lookup 76 (.map (some bs)) (.agg #[.int .i64 v.kind, .int .i64 v.i, .string v.s, .bool v.b]) true).run Tryd.prog e = .ok (.tuple #[.int .i64 g, .bool (W v).isSome]) e) ∧
    (∀ {e : World}, Below w.heap.size w e → (Instr.lookup 75 (.map (some bw)) (.int .i64 g) false).run Tryd.prog e = .ok (.map mv) e) ∧
    (∀ {e : World}, Below w.heap.size w e → (Instr.lookup 83 (.map mv) (.agg #[.int .i64 v.kind, .int .i64 v.i, .string v.s, .bool v.b]) false).run Tryd.prog e = .ok (wv (best W v)) e) ∧
    (∀ r, W v = some r → g = r.seg ∧ fw g = some (.map mv)) := by
  have hs := fun {e : World} (hb : Below w.heap.size w e) => (h.segs.below hb).look2 Tryd.underlying76 (zero_int _) hv
  have hw := fun {e : World} (hb : Below w.heap.size w e) (g : Int) (hg : (Lit.int .i64 g).wf = true) => (h.wins.below hb).look Tryd.underlying75 (zero_map _) (x := g) hg
  unfold best
  rcases hq : W v with _ | r
  · rw [hq] at hs
    have e0 := inn_no hq 0
    rcases h.winv 0 with h0 | ⟨b, h0⟩
    · refine ⟨0, none, wf_zero, hs, fun hb => ?_, fun hb => ?_, fun r hr => by cases hr⟩
      · have := hw hb 0 wf_zero
        rwa [h0] at this
      · exact look_nil (K := kV) Tryd.underlying83 (zero_win _) hv
    · refine ⟨0, some b, wf_zero, hs, fun hb => ?_, fun hb => ?_, fun r hr => by cases hr⟩
      · have := hw hb 0 wf_zero
        rwa [h0] at this
      · obtain ⟨m, hm, _⟩ := h.inner h0
        have := (hm.below hb).look Tryd.underlying83 (zero_win _) hv
        rwa [e0] at this
  · rw [hq] at hs
    have hr := hO v r hq
    have hg : (Lit.int .i64 r.seg).wf = true := wf_seg (by omega)
    have e0 := inn_yes hq
    rcases h.winv r.seg with h0 | ⟨b, h0⟩
    · have := h.none_ h0 v
      rw [e0] at this
      cases this
    · refine ⟨r.seg, some b, hg, hs, fun hb => ?_, fun hb => ?_, fun r' hr => by cases hr; exact ⟨rfl, h0⟩⟩
      · have := hw hb r.seg hg
        rwa [h0] at this
      · obtain ⟨m, hm, _⟩ := h.inner h0
        have := (hm.below hb).look Tryd.underlying83 (zero_win _) hv
        rwa [e0] at this
set_option maxHeartbeats 2000000 in
theorem find_lay (h : Lay w t A n c s bd bw bs nd nw ns fd fw (fun v => (W v).map Rw.seg) W Dc N F) (hO : SegOk W) {v : Vl} (hv : kV.ok v) :
    Calls Tryd.prog 17 #[.pointer (some ⟨t, 0, none⟩), .agg #[.int .i64 v.kind, .int .i64 v.i, .string v.s, .bool v.b]] w fun e w' => e = .returned (.tuple #[wv (best W v), .bool (W v).isSome]) ∧ Below w.heap.size w w' := by
  have hb0 := (Below.refl w.heap.size w).alloc (Nat.le_refl _) (.cells #[.int .i64 v.kind, .int .i64 v.i, .string v.s, .bool v.b] 27)
  have hb1 := hb0.alloc hb0.size (.cells #[.int .i64 0, .int .i64 0, .int .i64 0, .int .i64 0, .bool false] 47)
  have x0 : Vc.Vb ((w.alloc (.cells #[.int .i64 v.kind, .int .i64 v.i, .string v.s, .bool v.b] 27)).alloc (.cells #[.int .i64 0, .int .i64 0, .int .i64 0, .int .i64 0, .bool false] 47)) w.heap.size v.kind v.i v.s v.b := Wd.Bx.alloc (Wd.Bx.new w _ _) _
  have z0 : Wd.Bx ((w.alloc (.cells #[.int .i64 v.kind, .int .i64 v.i, .string v.s, .bool v.b] 27)).alloc (.cells #[.int .i64 0, .int .i64 0, .int .i64 0, .int .i64 0, .bool false] 47)) (w.heap.size + 1) 47 #[.int .i64 0, .int .i64 0, .int .i64 0, .int .i64 0, .bool false] := by
    have := Wd.Bx.new (w.alloc (.cells #[.int .i64 v.kind, .int .i64 v.i, .string v.s, .bool v.b] 27)) 47 #[.int .i64 0, .int .i64 0, .int .i64 0, .int .i64 0, .bool false]
    simpa using this
  have h1 := h.box.below h.box.lt hb1
  have c2 := h1.cell 6
  have c3 := h1.cell 7
  simp at c2 c3
  obtain ⟨g, mv, _, r1, r2, r3, _⟩ := looks h hO hv
  have r1 := r1 hb1.drew
  have r2 := r2 hb1.drew.drew
  have r3 := r3 hb1.drew.drew
  obtain ⟨T, hT⟩ : ∃ T, T = (W v).isSome := ⟨_, rfl⟩
  generalize best W v = r at *
  rw [← hT] at r1 ⊢
  replace r3 : (Instr.lookup 83 (.map mv) (.agg #[.int .i64 v.kind, .int .i64 v.i, .string v.s, .bool v.b]) false).run Tryd.prog ((w.alloc (.cells #[.int .i64 v.kind, .int .i64 v.i, .string v.s, .bool v.b] 27)).alloc (.cells #[.int .i64 0, .int .i64 0, .int .i64 0, .int .i64 0, .bool false] 47)).drew.drew = .ok (.agg #[.int .i64 r.seg, .int .i64 r.doc, .int .i64 r.cmp, .int .i64 r.off, .bool r.gone]) ((w.alloc (.cells #[.int .i64 v.kind, .int .i64 v.i, .string v.s, .bool v.b] 27)).alloc (.cells #[.int .i64 0, .int .i64 0, .int .i64 0, .int .i64 0, .bool false] 47)).drew.drew := r3
  clear hT h hO hv h1 hb0
  have hfz := z0.free
  go_enter Tryd.func17, Tryd.ntmps17
  go_wp2_with fail
  generalize hwa : (w.alloc (.cells #[.int .i64 v.kind, .int .i64 v.i, .string v.s, .bool v.b] 27)).alloc (.cells #[.int .i64 0, .int .i64 0, .int .i64 0, .int .i64 0, .bool false] 47) = wa at *
  clear hwa
  obtain ⟨⟨y0, y1, y2, y3⟩, -⟩ := Vc.four x0
  obtain ⟨u0, u1, u2, u3, u4⟩ := winc z0
  go_region
  all_goals (go_wp2_with fail)
  go_region
  all_goals (
    go_wp2_with fail
    (try simp only [Exit.inBlock, Exit.then])
    refine bodyPost_ret (v := .tuple #[.agg #[.int .i64 r.seg, .int .i64 r.doc, .int .i64 r.cmp, .int .i64 r.off, .bool r.gone], .bool T]) ?_ rfl ⟨rfl, ?_⟩
    · rw [Dt.res_cell2 rfl]; go_simp
    · exact (bel5 hb1 (by omega) _ _ _ _ _).drew.drew)
set_option maxHeartbeats 1000000 in
theorem keys_lay (h : Lay w t A n c s bd bw bs nd nw ns fd fw (fun v => (W v).map Rw.seg) W Dc N F) : Calls Tryd.prog 23 #[.pointer (some ⟨t, 0, none⟩)] w fun e w' => e = .returned (.int .i64 (ns : Int)) ∧ w' = w := by
  have c3 := h.box.cell 7
  simp at c3
  have hlen := fun ty => h.segs.len Tryd.underlying76 ty
  go_enter Tryd.func23, Tryd.ntmps23
  go_wp2_with fail
  go_ret
  exact ⟨rfl, rfl⟩
end
theorem keys_nil (w : World) : Calls Tryd.prog 23 #[.pointer none] w fun e w' => e = .returned (.int .i64 0) ∧ w' = w := by
  go_enter Tryd.func23, Tryd.ntmps23
  go_wp2_with fail
  go_ret
  exact ⟨rfl, rfl⟩
theorem find_nil (v : Vl) (w : World) : Calls Tryd.prog 17 #[.pointer none, .agg #[.int .i64 v.kind, .int .i64 v.i, .string v.s, .bool v.b]] w fun e w' => e = .returned (.tuple #[wz, .bool false]) ∧ Below w.heap.size w w' := by
  have hb0 := (Below.refl w.heap.size w).alloc (Nat.le_refl _) (.cells #[.int .i64 v.kind, .int .i64 v.i, .string v.s, .bool v.b] 27)
  have hb1 := hb0.alloc hb0.size (.cells #[.int .i64 0, .int .i64 0, .int .i64 0, .int .i64 0, .bool false] 47)
  have z0 : Wd.Bx ((w.alloc (.cells #[.int .i64 v.kind, .int .i64 v.i, .string v.s, .bool v.b] 27)).alloc (.cells #[.int .i64 0, .int .i64 0, .int .i64 0, .int .i64 0, .bool false] 47)) (w.heap.size + 1) 47 #[.int .i64 0, .int .i64 0, .int .i64 0, .int .i64 0, .bool false] := by
    have := Wd.Bx.new (w.alloc (.cells #[.int .i64 v.kind, .int .i64 v.i, .string v.s, .bool v.b] 27)) 47 #[.int .i64 0, .int .i64 0, .int .i64 0, .int .i64 0, .bool false]
    simpa using this
  have hfz := z0.free
  go_enter Tryd.func17, Tryd.ntmps17
  go_wp2_with fail
  generalize hwa : (w.alloc (.cells #[.int .i64 v.kind, .int .i64 v.i, .string v.s, .bool v.b] 27)).alloc (.cells #[.int .i64 0, .int .i64 0, .int .i64 0, .int .i64 0, .bool false] 47) = wa at *
  clear hwa
  obtain ⟨u0, u1, u2, u3, u4⟩ := winc z0
  go_wp2_with fail
  (try simp only [Exit.inBlock, Exit.then])
  refine bodyPost_ret (v := .tuple #[wz, .bool false]) ?_ rfl ⟨rfl, hb1⟩
  rw [Dt.res_cell2 rfl]
  go_simp
  rfl
section
end
end Up
end Go.Proofs.YtpappcmgnnmbeaaDoor
