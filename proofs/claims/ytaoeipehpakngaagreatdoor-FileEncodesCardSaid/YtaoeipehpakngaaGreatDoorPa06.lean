/- Words on memory, over any program: a block that is known whole; a row that is filled place by place; a cut of a slice that begins at a known place. Columns in memory; rows of truths; the reference's width. Words on memory, over any program: a slice of slices of bytes; a row of the call's own whose and what goes with it. -/
import Derived.WalkKit
import Derived.Lib.Hide
import Derived.RangeFuncBox
import Derived.WalkSpells
import Derived.WalkLawsBesides
import Derived.Maps.AppendAt
import Derived.Deep.RegionLaw
import Derived.Test.YtaoeipehpakngaaGreatDoorPa02
import Derived.Test.YtaoeipehpakngaaGreatDoorPa04
import Derived.Test.YtaoeipehpakngaaGreatDoorPa05
import Derived.Test.YtaoeipehpakngaaGreatDoorProg
import Derived.Test.YtaoeipehpakngaaGreatDoorPa01
import Derived.Test.YtaoeipehpakngaaGreatDoorPa03
namespace Go.Proofs.YtaoeipehpakngaaGreatDoor
set_option maxRecDepth 20000
open Go.RowKit
namespace Wd
def Bx (w : World) (g : Nat) (t : TypeId) (cs : Array Value) : Prop := w.heap[g]? = some (.cells cs t (0, 0))
section
variable {w w' : World} {g : Nat} {t : TypeId} {cs : Array Value}
theorem Bx.lt (h : Bx w g t cs) : g < w.heap.size := lt_of_block h
theorem Bx.cell (h : Bx w g t cs) (j : Nat) : w.cell? ⟨g, j, none⟩ = cs[j]? := cell_of_row w g j cs t (0, 0) h
theorem Bx.free (h : Bx w g t cs) (j : Nat) : w.frozen? ⟨g, j, none⟩ = false := frozen_of_row w g j cs t h
theorem Bx.new (w : World) (t : TypeId) (cs : Array Value) : Bx (w.alloc (.cells cs t)) w.heap.size t cs := heap_alloc_new w _
theorem Bx.alloc (h : Bx w g t cs) (o : Obj) : Bx (w.alloc o) g t cs := by
  unfold Bx
  rw [Below.heap_alloc w o g h.lt]
  exact h
theorem Bx.below {B : Nat} (h : Bx w g t cs) (hg : g < B) (hb : Below B w w') : Bx w' g t cs := by
  unfold Bx
  rw [hb.block g hg]
  exact h
theorem Bx.grown {row : Option Nat} (h : Bx w g t cs) (hb : w.grownBy w' row) (hg : some g ≠ row) : Bx w' g t cs := (hb.block g h.lt hg).trans h
theorem Bx.apart {base : Nat} {e : TypeId} {size n : Nat} {v : Value} {xs : List Value} (h : Bx w g t cs) (hr : w.ownsRow base e size v n xs) (hne : t ≠ e) : some g ≠ v.ownBlock := by
  rcases hr.2 with ⟨rfl, _⟩ | ⟨g', cap, cur, rfl, _, hg, _⟩
  · simp [Value.ownBlock]
  · intro he
    have : g = g' := by simpa [Value.ownBlock] using he
    subst this
    unfold Bx at h
    rw [h] at hg
    simp only [Option.some.injEq, Obj.cells.injEq] at hg
    exact hne hg.2.1
end
def fill (d : List Int) (k : Nat) : List Int := d.take k ++ List.replicate (d.length - k) 0
theorem fill_zero (d : List Int) : fill d 0 = List.replicate d.length 0 := by simp [fill]
theorem fill_all (d : List Int) : fill d d.length = d := by simp [fill]
theorem fill_len (d : List Int) (k : Nat) : (fill d k).length = d.length := by simp [fill]; omega
theorem fill_set (d : List Int) (k : Nat) (hk : k < d.length) : (fill d k).set k (d.getD k 0) = fill d (k + 1) := by
  refine List.ext_getElem (by simp [fill_len]) fun i h1 h2 => ?_
  simp only [fill_len, List.length_set] at h1 h2
  rw [List.getElem_set]
  simp only [fill, List.getElem_append, List.length_take, List.getElem_take, List.getElem_replicate]
  by_cases e : k = i
  · subst e
    rw [if_pos rfl, dif_pos (by omega)]
    simp [List.getD, hk]
  · rw [if_neg e]
    by_cases q : i < min k d.length
    · rw [dif_pos q, dif_pos (by omega)]
    · rw [dif_neg q, dif_neg (by omega)]
theorem Sl.cut_at {w : World} {k : IntKind} {b o n c : Nat} {ys : List Int} (h : Sl w k (some ⟨b, o, none⟩) n c ys) (q : Nat) (hq : q ≤ n) (hc : c ≠ q) : Sl w k (some ⟨b, o + q, none⟩) (n - q) (c - q) (ys.drop q) := by
  have := h.cut q hq
  rw [if_neg hc, Option.map_some, Addr.add_lit] at this
  exact this
end Wd
namespace Cx
open Va (Vl May ord null)
open Sc (tr tr_yes tr_no tr_iff)
open Co
structure Cl (w : World) (A : Option Addr) (n c : Nat) (B : Option Addr) (m d : Nat) (C : Col) : Prop where
  dict : Wd.Vs w A n c C.dict
  ids : Wd.Sl w .u8 B m d C.ids
  byt : Bt.InR 8 C.ids
  n0 : -9223372036854775808 ≤ C.n
  n1 : C.n ≤ 9223372036854775807
  str : ∀ x ∈ C.dict, x.s.size ≤ maxLen
theorem Cl.below {w w' : World} {A : Option Addr} {n c : Nat} {B : Option Addr} {m d : Nat} {C : Col} (h : Cl w A n c B m d C) (hb : Below w.heap.size w w') : Cl w' A n c B m d C :=
  ⟨h.dict.below hb, h.ids.below hb, h.byt, h.n0, h.n1, h.str⟩
theorem Cl.none_ (w : World) : Cl w none 0 0 none 0 0 none_ := ⟨Wd.Vs.none_ _, Wd.Sl.none_ _ _, fun _ h => (by cases h), by decide, by decide, fun _ h => (by cases h)⟩
def OutC (w : World) (r : Col × Int) (e : Ending) (w' : World) : Prop :=
  ∃ A n c B m d, e = .returned (.tuple #[.agg #[.int .i64 r.1.n, .slice A n c, .slice B m d], .int .i64 r.2]) ∧ Cl w' A n c B m d r.1 ∧ Below w.heap.size w w'
def OutG (w : World) (C : Col) (k er : Int) (e : Ending) (w' : World) : Prop :=
  ∃ A n c B m d, e = .returned (.tuple #[.agg #[.int .i64 C.n, .slice A n c, .slice B m d], .int .i64 k, .int .i64 er]) ∧ Cl w' A n c B m d C ∧ Below w.heap.size w w'
def OutB (w : World) (l : List Int) (b : Bool) (e : Ending) (w' : World) : Prop :=
  ∃ A n c, e = .returned (.tuple #[.slice A n c, .bool b]) ∧ Wd.Sl w' .i64 A n c l ∧ Below w.heap.size w w'
def OutV (w : World) (l : List Vl) (e : Ending) (w' : World) : Prop :=
  ∃ A n c, e = .returned (.slice A n c) ∧ Wd.Vs w' A n c l ∧ Below w.heap.size w w'
structure Cb (w : World) (p : Nat) (N : Int) (A : Option Addr) (n c : Nat) (B : Option Addr) (m d : Nat) : Prop where
  bx : Wd.Bx w p 57 #[.int .i64 N, .slice A n c, .slice B m d]
theorem Cb.new (w : World) (N : Int) (A : Option Addr) (n c : Nat) (B : Option Addr) (m d : Nat) : Cb (w.alloc (.cells #[.int .i64 N, .slice A n c, .slice B m d] 57)) w.heap.size N A n c B m d := ⟨Wd.Bx.new _ _ _⟩
section
variable {w w' : World} {p : Nat} {N : Int} {A : Option Addr} {n c : Nat} {B : Option Addr} {m d : Nat}
theorem Cb.c0 (h : Cb w p N A n c B m d) : w.cell? ⟨p, 0, none⟩ = some (.int .i64 N) := h.bx.cell 0
theorem Cb.c1 (h : Cb w p N A n c B m d) : w.cell? ⟨p, 1, none⟩ = some (.slice A n c) := h.bx.cell 1
theorem Cb.c2 (h : Cb w p N A n c B m d) : w.cell? ⟨p, 2, none⟩ = some (.slice B m d) := h.bx.cell 2
theorem Cb.below {K : Nat} (h : Cb w p N A n c B m d) (hp : p < K) (hb : Below K w w') : Cb w' p N A n c B m d := ⟨h.bx.below hp hb⟩
theorem Cb.lt (h : Cb w p N A n c B m d) : p < w.heap.size := h.bx.lt
end
def RowB (w : World) (g : Nat) (sb : List Bool) : Prop := w.heap[g]? = some (.cells (sb.map Value.bool).toArray 4 (0, 0))
section
variable {w w' : World} {g : Nat} {sb : List Bool}
theorem RowB.lt (h : RowB w g sb) : g < w.heap.size := Wd.Bx.lt h
theorem RowB.cell (h : RowB w g sb) (j : Nat) (hj : j < sb.length) : w.cell? ⟨g, j, none⟩ = some (.bool (sb.getD j false)) := by
  rw [cell_of_row w g j _ 4 (0, 0) h]
  simp [List.getD, List.getElem?_eq_getElem hj]
theorem RowB.free (h : RowB w g sb) (j : Nat) : w.frozen? ⟨g, j, none⟩ = false := frozen_of_row w g j _ _ h
theorem RowB.set (h : RowB w g sb) (j : Nat) (x : Bool) : RowB (w.setCell ⟨g, j, none⟩ (.bool x)) g (sb.set j x) := by
  unfold RowB
  rw [heap_setCell_same w g j _ 4 _ h]
  simp [List.map_set]
theorem RowB.of_own {base n : Nat} (h : w.ownsRow base 4 1 (.slice (some ⟨g, 0, none⟩) n n) n (sb.map Value.bool)) : RowB w g sb ∧ base ≤ g ∧ n = sb.length := by
  have hl : n = sb.length := by have := h.1; simpa using this.symm
  rcases h.2 with ⟨h', _⟩ | ⟨g', cap', cur, h', hb, hg, _, _, hs, ht⟩
  · simp at h'
  · simp only [Value.slice.injEq, Option.some.injEq, Addr.mk.injEq, and_true, true_and] at h'
    obtain ⟨rfl, rfl⟩ := h'
    refine ⟨?_, hb, hl⟩
    unfold RowB
    rw [hg]
    have : cur = (sb.map Value.bool).toArray := by
      rw [← ht, List.take_of_length_le (by simp; omega)]
    rw [this]
end
theorem made_false (n : Nat) : (madeCells (Value.bool false).cells (n * 1)).toList = (List.replicate n false).map Value.bool := by
  refine List.ext_getElem (by simp [madeCells]) fun i h1 h2 => ?_
  simp [madeCells, Value.cells, Nat.mod_one]
theorem info_b : (Tryz.prog.info? 4).map (fun i => (i.zero, i.size, i.bytes)) = some (some (.bool false), 1, 1) := by kernel_rfl
theorem width_any (n : Nat) (hn : n ≤ 1000000) (w : World) :
    Calls Tryz.prog 74 #[.int .i64 (n : Int)] w fun e w' => e = .returned (.int .i64 (Bc.wid ((n : Int) - 1))) ∧ w' = w := by
  have C := Lib.hid (Bc.refWidth_any ((n : Int) - 1) w (by omega) (by omega))
  go_enter Tryz.func74, Tryz.ntmps74
  go_wp2_with fail
  refine C.out.mono ?_
  rintro e w' ⟨rfl, rfl⟩
  go_wp2_with fail
  go_ret
  exact ⟨rfl, rfl⟩
end Cx
namespace Wd
structure Ss (w : World) (A : Option Addr) (n c : Nat) (ys : List (List Int)) : Prop where
  len : n = ys.length
  cap : n ≤ c
  max : c ≤ maxLen
  nil : A = none → c = 0
  at_ : ∀ j, j < ys.length → ∃ b o A' n' c', A = some ⟨b, o, none⟩ ∧ b < w.heap.size ∧ w.cell? ⟨b, o + j, none⟩ = some (.slice A' n' c') ∧ Sl w .u8 A' n' c' (ys.getD j [])
theorem Ss.below {w w' : World} {A : Option Addr} {n c : Nat} {ys : List (List Int)} (h : Ss w A n c ys) (hb : Below w.heap.size w w') : Ss w' A n c ys :=
  ⟨h.len, h.cap, h.max, h.nil, fun j hj => by
    obtain ⟨b, o, A', n', c', e, hlt, hc, hs⟩ := h.at_ j hj
    have := hb.size
    exact ⟨b, o, A', n', c', e, by omega, (hb.cell (p := ⟨b, o + j, none⟩) hlt).trans hc, hs.below hb⟩⟩
theorem Ss.none_ (w : World) : Ss w none 0 0 [] := ⟨rfl, Nat.le_refl _, Nat.zero_le _, fun _ => rfl, fun _ h => by simp at h⟩
def OutSs (w : World) (ys : List (List Int)) (k : Int) (e : Ending) (w' : World) : Prop :=
  ∃ A n c, e = .returned (.tuple #[.slice A n c, .int .i64 k]) ∧ Ss w' A n c ys ∧ Below w.heap.size w w'
def Hs (w : World) (e : TypeId) (vs : List Value) (ys : List (List Int)) : Prop :=
  vs.length = ys.length ∧ ∀ j, j < ys.length → w.ownsRow 0 e 1 (vs.getD j undef) (ys.getD j []).length ((ys.getD j []).map (Value.int .u8))
theorem Hs.nil (w : World) (e : TypeId) : Hs w e [] [] := ⟨rfl, fun _ h => by simp at h⟩
theorem Hs.below {w w' : World} {e : TypeId} {vs : List Value} {ys : List (List Int)} (h : Hs w e vs ys) (hb : Below w.heap.size w w') : Hs w' e vs ys := ⟨h.1, fun j hj => own_below (h.2 j hj) hb⟩
theorem Hs.snoc {w : World} {e : TypeId} {vs : List Value} {ys : List (List Int)} {v : Value} {y : List Int} (h : Hs w e vs ys) (hv : w.ownsRow 0 e 1 v y.length (y.map (Value.int .u8))) : Hs w e (vs ++ [v]) (ys ++ [y]) := by
  refine ⟨by simp [h.1], fun j hj => ?_⟩
  simp only [List.length_append, List.length_cons, List.length_nil] at hj
  by_cases q : j < ys.length
  · have e1 : (vs ++ [v]).getD j undef = vs.getD j undef := by simp only [List.getD]; rw [List.getElem?_append_left (by rw [h.1]; exact q)]
    have e2 : (ys ++ [y]).getD j [] = ys.getD j [] := by simp only [List.getD]; rw [List.getElem?_append_left q]
    rw [e1, e2]
    exact h.2 j q
  · obtain rfl : j = ys.length := by omega
    have e1 : (vs ++ [v]).getD ys.length undef = v := by rw [← h.1]; simp [List.getD]
    have e2 : (ys ++ [y]).getD ys.length [] = y := by simp [List.getD]
    rw [e1, e2]
    exact hv
theorem Hs.grown {w w' : World} {e e' : TypeId} {vs : List Value} {ys : List (List Int)} {base n size : Nat} {v : Value} {xs : List Value} (h : Hs w e vs ys) (hr : w.ownsRow base e' size v n xs) (hne : e ≠ e') (hg : w.grownBy w' v.ownBlock) : Hs w' e vs ys :=
  ⟨h.1, fun j hj => (h.2 j hj).kept hg (by
    rcases (h.2 j hj).2 with ⟨q, _⟩ | ⟨g, cap, cur, q, _, hgb, _⟩
    · left; rw [q]; rfl
    · right
      rw [q]
      intro e1
      rcases hr.2 with ⟨rfl, _⟩ | ⟨g', cap', cur', rfl, _, hgb', _⟩
      · simp [Value.ownBlock] at e1
      · obtain rfl : g = g' := by simpa [Value.ownBlock] using e1
        rw [hgb] at hgb'
        simp only [Option.some.injEq, Obj.cells.injEq] at hgb'
        exact hne hgb'.2.1)⟩
theorem Hs.set {w : World} {e t : TypeId} {vs : List Value} {ys : List (List Int)} {B : Nat} {u u' : Value} (h : Hs w e vs ys) (hb : Boxed w B t u) (hne : t ≠ e) : Hs (w.setCell ⟨B, 0, none⟩ u') e vs ys :=
  ⟨h.1, fun j hj => (h.2 j hj).kept (grownBy_setCell' w B u') (.inr (hb.not_row hne (h.2 j hj)).symm)⟩
theorem own_others {X Y : World} {base : Nat} {e : TypeId} {size n : Nat} {v : Value} {xs : List Value} {row : Option Nat} (hr : X.ownsRow base e size v n xs) (hg : X.grownBy Y row) (hrow : ∀ r, row = some r → ∃ o : Obj, X.heap[r]? = some o ∧ o.isCells = false) : Y.ownsRow base e size v n xs := by
  refine hr.kept hg ?_
  rcases hr.2 with ⟨rfl, _⟩ | ⟨g, cap, cur, rfl, _, hgb, _⟩
  · exact .inl rfl
  · refine .inr fun e' => ?_
    obtain ⟨o, ho, hc⟩ := hrow g (by simpa [Value.ownBlock] using e'.symm)
    rw [hgb] at ho; cases ho; cases hc
theorem Hs.others {X Y : World} {e : TypeId} {vs : List Value} {ys : List (List Int)} {row : Option Nat} (h : Hs X e vs ys) (hg : X.grownBy Y row) (hrow : ∀ r, row = some r → ∃ o : Obj, X.heap[r]? = some o ∧ o.isCells = false) : Hs Y e vs ys :=
  ⟨h.1, fun j hj => own_others (h.2 j hj) hg hrow⟩
theorem Ss.of_own {w : World} {base n : Nat} {e e' : TypeId} {v : Value} {vs : List Value} {ys : List (List Int)} (h : w.ownsRow base e' 1 v n vs) (hs : Hs w e vs ys) : ∃ A n c, v = .slice A n c ∧ Ss w A n c ys := by
  have hn : n = ys.length := by have := h.1; rw [hs.1] at this; omega
  subst hn
  rcases h.2 with ⟨rfl, h0⟩ | ⟨g, cap, cur, rfl, hb, hg, h1, h2, h3, h4⟩
  · obtain rfl := List.eq_nil_of_length_eq_zero h0
    exact ⟨none, 0, 0, rfl, Ss.none_ _⟩
  · refine ⟨_, _, _, rfl, ⟨rfl, h1, h2, by simp, fun j hj => ?_⟩⟩
    obtain ⟨A', n', c', e1, hS⟩ := Sl.of_own (hs.2 j hj)
    refine ⟨g, 0, A', n', c', rfl, (Array.getElem?_eq_some_iff.1 hg).1, ?_, hS⟩
    have := h.cellAt (g := g) (cap := cap) j (by omega)
    rw [Nat.zero_add, this, ← e1]
    simp [List.getD, List.getElem?_eq_getElem (show j < vs.length by rw [hs.1]; exact hj)]
section
variable {P : Program} (w : World)
theorem step_app1 {ops : Array Oper} {o : Oper} {a : Act} {K : Act → World → Prop} {Q : Exit → Act → World → Prop} {E : Prop} (hgd : o.guard = none) (s x : Operand) (t : TypeId)
    (ho : o.op = .call { callee := .builtin .append, args := #[s, x], argTypes := #[t, t] })
    (B : Nat) (e : TypeId) (i : TypeInfo) (z : Value) (bytes : Nat) (ht : P.underlying t = some (.slice e)) (hi : P.info? e = some i) (hz : i.zero = some z)
    (hsize : i.size = 1) (hby : i.bytes = bytes) (hzs : z.cells.size = 1)
    (v : Value) (k : Nat) (xs : List Value) (hs : a.eval s = v) (hown : w.ownsRow B e 1 v k xs)
    (ad : Addr) (u : Value) (hx : a.eval x = .slice (some ad) 1 1) (hc : w.cell? ad = some u) (had : ad.add 0 = ad) (h1 : u.oneCell' = true)
    (h63 : k + 1 ≤ maxLen) (hbytes : (k + 1) * bytes ≤ 140737488355328) (hB : B ≤ w.heap.size)
    (h : ∀ v' w', w'.ownsRow B e 1 v' (k + 1) (xs ++ [u]) → w.grownBy w' v.ownBlock → K (a.put o.dst v') w') : if Region.wanted o (yielded ops a.tmps) = true then Oper.wp P o a w K Q else E := by
  rw [if_pos (by simp [Region.wanted, hgd])]
  obtain ⟨v', w', hrun, h2, h3, _⟩ := run_append_own (P := P) w B t o.type e i z 1 bytes ht hi hz hsize hby hzs (by decide) v k xs hown ad 1 1 [u] (by simp) (fun j q hj => by
    have hj1 : j < 1 := by simpa using (List.getElem?_eq_some_iff.1 hj).1
    obtain rfl : j = 0 := by omega
    simp only [List.getElem?_cons_zero, Option.some.injEq] at hj
    rw [had, ← hj]; exact hc) (by simpa using h1) h63 hbytes hB
  unfold Oper.wp
  simp [execOp, ho, resolve, invoke, builtin, hs, hx, hrun, Result.andThen]
  exact h v' w' h2 h3
theorem wpList_app1v {ops : Array Oper} {rest : List Oper} {o : Oper} {a : Act} {Q : Exit → Act → World → Prop} (hgd : o.guard = none) (s x : Operand) (t : TypeId)
    (ho : o.op = .call { callee := .builtin .append, args := #[s, x], argTypes := #[t, t] })
    (B : Nat) (e : TypeId) (i : TypeInfo) (z : Value) (bytes : Nat) (ht : P.underlying t = some (.slice e)) (hi : P.info? e = some i) (hz : i.zero = some z)
    (hsize : i.size = 1) (hby : i.bytes = bytes) (hzs : z.cells.size = 1)
    (v : Value) (k : Nat) (xs : List Value) (hs : a.eval s = v) (hown : w.ownsRow B e 1 v k xs)
    (ad : Addr) (u : Value) (hx : a.eval x = .slice (some ad) 1 1) (hc : w.cell? ad = some u) (had : ad.add 0 = ad) (h1 : u.oneCell' = true)
    (h63 : k + 1 ≤ maxLen) (hbytes : (k + 1) * bytes ≤ 140737488355328) (hB : B ≤ w.heap.size)
    (h : ∀ v' w', w'.ownsRow B e 1 v' (k + 1) (xs ++ [u]) → w.grownBy w' v.ownBlock → wpList P ops Q rest (a.put o.dst v') w') : wpList P ops Q (o :: rest) a w := by
  refine wpList_plain hgd fun K hK => ?_
  obtain ⟨v', w', hrun, h2, h3, _⟩ := run_append_own (P := P) w B t o.type e i z 1 bytes ht hi hz hsize hby hzs (by decide) v k xs hown ad 1 1 [u] (by simp) (fun j q hj => by
    have hj1 : j < 1 := by simpa using (List.getElem?_eq_some_iff.1 hj).1
    obtain rfl : j = 0 := by omega
    simp only [List.getElem?_cons_zero, Option.some.injEq] at hj
    rw [had, ← hj]; exact hc) (by simpa using h1) h63 hbytes hB
  unfold Oper.wp
  simp [execOp, ho, resolve, invoke, builtin, hs, hx, hrun, Result.andThen]
  exact hK _ _ (h v' w' h2 h3)
theorem step_app {ops : Array Oper} {o : Oper} {a : Act} {K : Act → World → Prop} {Q : Exit → Act → World → Prop} {E : Prop} (hgd : o.guard = none) (s x : Operand) (t : TypeId)
    (ho : o.op = .call { callee := .builtin .append, args := #[s, x], argTypes := #[t, t] })
    (B : Nat) (e : TypeId) (i : TypeInfo) (z : Value) (k : IntKind) (bytes : Nat) (ht : P.underlying t = some (.slice e)) (hi : P.info? e = some i) (hz : i.zero = some z)
    (hsize : i.size = 1) (hby : i.bytes = bytes) (hzs : z.cells.size = 1)
    (v : Value) (xs : List Int) (hs : a.eval s = v) (hown : w.ownsRow B e 1 v xs.length (xs.map (Value.int k)))
    (B' : Nat) (A : Option Addr) (m c : Nat) (ys : List Int) (hx : a.eval x = .slice A m c) (hm : m = ys.length) (hA : A = none → c = 0) (hr : Rd w B' k A ys)
    (hbytes : (xs.length + ys.length) * bytes ≤ 140737488355328) (h63 : xs.length + ys.length ≤ maxLen) (hB : B ≤ w.heap.size)
    (h : ∀ v' w', w'.ownsRow B e 1 v' (xs ++ ys).length ((xs ++ ys).map (Value.int k)) → w.grownBy w' v.ownBlock → K (a.put o.dst v') w') : if Region.wanted o (yielded ops a.tmps) = true then Oper.wp P o a w K Q else E := by
  rw [if_pos (by simp [Region.wanted, hgd])]
  obtain ⟨v', w', hrun, h2, h3⟩ := run_app_own (P := P) w B t o.type e i z k bytes ht hi hz hsize hby hzs v xs hown B' A m c ys hm hA hr hbytes h63 hB
  unfold Oper.wp
  simp [execOp, ho, resolve, invoke, builtin, hs, hx, hrun, Result.andThen]
  exact h v' w' h2 h3
end
end Wd
namespace Vc
open Va
def ownI (k i : Int) : Int := if k = 1 then i else 0
def ownS (k : Int) (s : ByteArray) : ByteArray := if k = 2 then s else ⟨#[]⟩
def ownB (k : Int) (b : Bool) : Bool := if k = 3 then b else false
theorem res_cell1 {fn : Func} {p : Tmp} {ty : TypeId} (h : fn.results = #[.cell p ty]) (tmps : Array Value) (P : Program) (w : World) :
    (results fn tmps).run P w = ((asAddr (tmps.getD p undef)).run P w).andThen fun a w₁ => (loadVar ty a).run P w₁ := by
  simp only [results, h]
  simp [Sem.run_bind, Result.andThen]
theorem res_cell3 {fn : Func} {p u v : Tmp} {ty : TypeId} (h : fn.results = #[.cell p ty, .tmp u, .tmp v]) (tmps : Array Value) (P : Program) (w : World) :
    (results fn tmps).run P w = ((asAddr (tmps.getD p undef)).run P w).andThen fun a w₁ => ((loadVar ty a).run P w₁).andThen fun x w₂ => .ok (.tuple #[x, tmps.getD u undef, tmps.getD v undef]) w₂ := by
  simp only [results, h]
  simp [Sem.run_bind, Result.andThen]
theorem own_any (k i : Int) (s : ByteArray) (b : Bool) (w : World) :
    Calls Tryz.prog 190 #[.agg #[.int .i64 k, .int .i64 i, .string s, .bool b]] w fun e w' => e = .returned (.agg #[.int .i64 k, .int .i64 (ownI k i), .string (ownS k s), .bool (ownB k b)]) ∧ Below w.heap.size w w' := by
  unfold ownI ownS ownB
  by_cases h1 : k = 1
  · subst h1
    go_enter Tryz.func190, Tryz.ntmps190
    go_wp2_with fail
    (try simp only [Exit.inBlock, Exit.then])
    refine bodyPost_ret (v := .agg #[.int .i64 1, .int .i64 i, .string ⟨#[]⟩, .bool false]) ?_ rfl ⟨rfl, ?_⟩
    · rw [res_cell1 rfl]; go_simp
    · repeat' (first | exact Below.refl _ _ | refine Below.setCell ?_ (by simp) _ | refine Below.alloc ?_ (by simp <;> omega) _)
  by_cases h2 : k = 2
  · subst h2
    go_enter Tryz.func190, Tryz.ntmps190
    go_wp2_with fail
    (try simp only [Exit.inBlock, Exit.then])
    refine bodyPost_ret (v := .agg #[.int .i64 2, .int .i64 0, .string s, .bool false]) ?_ rfl ⟨rfl, ?_⟩
    · rw [res_cell1 rfl]; go_simp
    · repeat' (first | exact Below.refl _ _ | refine Below.setCell ?_ (by simp) _ | refine Below.alloc ?_ (by simp <;> omega) _)
  by_cases h3 : k = 3
  · subst h3
    go_enter Tryz.func190, Tryz.ntmps190
    go_wp2_with fail
    (try simp only [Exit.inBlock, Exit.then])
    refine bodyPost_ret (v := .agg #[.int .i64 3, .int .i64 0, .string ⟨#[]⟩, .bool b]) ?_ rfl ⟨rfl, ?_⟩
    · rw [res_cell1 rfl]; go_simp
    · repeat' (first | exact Below.refl _ _ | refine Below.setCell ?_ (by simp) _ | refine Below.alloc ?_ (by simp <;> omega) _)
  rw [if_neg h1, if_neg h2, if_neg h3]
  have q1 : (k == 1) = false := by simpa using h1
  have q2 : (k == 2) = false := by simpa using h2
  have q3 : (k == 3) = false := by simpa using h3
  go_enter Tryz.func190, Tryz.ntmps190
  go_wp2_with fail
  (try simp only [Exit.inBlock, Exit.then])
  refine bodyPost_ret (v := .agg #[.int .i64 k, .int .i64 0, .string ⟨#[]⟩, .bool false]) ?_ rfl ⟨rfl, ?_⟩
  · rw [res_cell1 rfl]; go_simp
  · repeat' (first | exact Below.refl _ _ | refine Below.setCell ?_ (by simp) _ | refine Below.alloc ?_ (by simp <;> omega) _)
def dg (b : Bool) : Int := if b then 1 else 0
theorem digit_any (b : Bool) (w : World) :
    Calls Tryz.prog 151 #[.bool b] w fun e w' => e = .returned (.int .u8 (dg b)) ∧ w' = w := by
  cases b
  · go_enter Tryz.func151, Tryz.ntmps151
    go_wp2_with fail
    go_ret
    exact ⟨rfl, rfl⟩
  · go_enter Tryz.func151, Tryz.ntmps151
    go_wp2_with fail
    go_ret
    exact ⟨rfl, rfl⟩
def Vb (w : World) (g : Nat) (k i : Int) (s : ByteArray) (b : Bool) : Prop := Wd.Bx w g 47 #[.int .i64 k, .int .i64 i, .string s, .bool b]
theorem four {w : World} {g : Nat} {k i : Int} {s : ByteArray} {b : Bool} (h : Vb w g k i s b) :
    (w.cell? ⟨g, 0, none⟩ = some (.int .i64 k) ∧ w.cell? ⟨g, 1, none⟩ = some (.int .i64 i) ∧ w.cell? ⟨g, 2, none⟩ = some (.string s) ∧ w.cell? ⟨g, 3, none⟩ = some (.bool b))
    ∧ (w.frozen? ⟨g, 0, none⟩ = false ∧ w.frozen? ⟨g, 1, none⟩ = false ∧ w.frozen? ⟨g, 2, none⟩ = false ∧ w.frozen? ⟨g, 3, none⟩ = false) :=
  ⟨⟨(Wd.Bx.cell h 0).trans rfl, (Wd.Bx.cell h 1).trans rfl, (Wd.Bx.cell h 2).trans rfl, (Wd.Bx.cell h 3).trans rfl⟩, Wd.Bx.free h 0, Wd.Bx.free h 1, Wd.Bx.free h 2, Wd.Bx.free h 3⟩
def setV (w : World) (g : Nat) (k i : Int) (s : ByteArray) (b : Bool) : World := (((w.setCell ⟨g, 0, none⟩ (.int .i64 k)).setCell ⟨g, 1, none⟩ (.int .i64 i)).setCell ⟨g, 2, none⟩ (.string s)).setCell ⟨g, 3, none⟩ (.bool b)
theorem Vb.set {w : World} {g : Nat} {k i k' i' : Int} {s s' : ByteArray} {b b' : Bool} (h : Vb w g k i s b) : Vb (setV w g k' i' s' b') g k' i' s' b' := by
  have h1 := heap_setCell_same w g 0 _ _ (.int .i64 k') h
  have h2 := heap_setCell_same _ g 1 _ _ (.int .i64 i') h1
  have h3 := heap_setCell_same _ g 2 _ _ (.string s') h2
  have h4 := heap_setCell_same _ g 3 _ _ (.bool b') h3
  exact h4
theorem Vb.other {w : World} {g g' : Nat} {k i k' i' : Int} {s s' : ByteArray} {b b' : Bool} (h : Vb w g k i s b) (hg : g ≠ g') : Vb (setV w g' k' i' s' b') g k i s b := by
  unfold Vb Wd.Bx setV
  rw [heap_setCell_other _ _ _ _ hg, heap_setCell_other _ _ _ _ hg, heap_setCell_other _ _ _ _ hg, heap_setCell_other _ _ _ _ hg]
  exact h
theorem below_setV {B : Nat} {w w' : World} {g : Nat} {k i : Int} {s : ByteArray} {b : Bool} (h : Below B w w') (hg : B ≤ g) : Below B w (setV w' g k i s b) :=
  (((h.setCell hg _).setCell hg _).setCell hg _).setCell hg _
end Vc
end Go.Proofs.YtaoeipehpakngaaGreatDoor
namespace Go.Proofs.YtaoeipehpakngaaGreatDoor
set_option maxRecDepth 20000
open Go.RowKit Go.Maps
namespace Wd
open Va (Vl)
def flatV (L : List Vl) : List Value := L.flatMap vals
theorem flatV_app (L M : List Vl) : flatV (L ++ M) = flatV L ++ flatV M := List.flatMap_append
theorem flatV_one (v : Vl) : flatV [v] = vals v := by simp [flatV]
theorem flatV_len : ∀ L : List Vl, (flatV L).length = L.length * 4
  | [] => rfl
  | f :: r => by show (vals f ++ flatV r).length = _; rw [List.length_append, flatV_len r, List.length_cons]; simp [vals]; omega
theorem flatV_get : ∀ (L : List Vl) (j : Nat), j < L.length → ∀ i v, (vals (L.getD j default))[i]? = some v → (flatV L)[j * 4 + i]? = some v
  | [], _, h, _, _, _ => by simp at h
  | f :: r, 0, _, i, v, hv => by
    show (vals f ++ flatV r)[0 * 4 + i]? = some v
    have hi : i < (vals f).length := (List.getElem?_eq_some_iff.1 (by simpa using hv)).1
    rw [Nat.zero_mul, Nat.zero_add, List.getElem?_append_left hi]
    simpa using hv
  | f :: r, j + 1, h, i, v, hv => by
    have := flatV_get r j (by simpa using h) i v (by simpa using hv)
    show (vals f ++ flatV r)[(j + 1) * 4 + i]? = some v
    rw [List.getElem?_append_right (by simp [vals]; omega)]
    rw [show (j + 1) * 4 + i - (vals f).length = j * 4 + i by simp [vals]; omega]
    exact this
theorem Vs.of_own {w : World} {base : Nat} {e : TypeId} {v : Value} {n : Nat} {L : List Vl} (h : w.ownsRow base e 4 v n (flatV L)) (h1 : ∀ j, j < L.length → V1 (L.getD j default)) : ∃ A n c, v = .slice A n c ∧ Vs w A n c L := by
  have hl : n = L.length := by have := h.1; rw [flatV_len] at this; omega
  subst hl
  rcases h.2 with ⟨rfl, h0⟩ | ⟨g, cap, cur, rfl, hb, hg, h2, h3, h4, h5⟩
  · have : L = [] := List.eq_nil_of_length_eq_zero h0
    subst this
    exact ⟨none, 0, 0, rfl, Vs.none_ _⟩
  · refine ⟨_, _, _, rfl, ⟨rfl, h2, h3, by simp, fun j hj => ⟨g, 0, rfl, (Array.getElem?_eq_some_iff.1 hg).1, fun i u hu => ?_, h1 j hj⟩⟩⟩
    rw [Nat.zero_add]
    have hi : i < 4 := by have := (List.getElem?_eq_some_iff.1 hu).1; simpa [vals] using this
    exact (h.cellAt (j * 4 + i) (by omega)).trans (flatV_get L j hj i u hu)
theorem info_vl : (Tryz.prog.info? 47).map (fun i => (i.zero, i.size, i.bytes)) = some (some (.agg #[.int .i64 0, .int .i64 0, .string ⟨#[]⟩, .bool false]), 4, 40) := by kernel_rfl
theorem vals_one (o : Vl) : ∀ u ∈ vals o, u.oneCell' = true := by
  intro u hu
  simp only [vals, List.mem_cons, List.not_mem_nil, or_false] at hu
  rcases hu with rfl | rfl | rfl | rfl <;> rfl
theorem vals_new (w : World) (o : Vl) (cs : Array Value) (hc : cs = (vals o).toArray) : ∀ j u, (vals o)[j]? = some u → (w.alloc (.cells cs 47)).cell? ((⟨w.heap.size, 0, none⟩ : Addr).add j) = some u := by
  intro j u hu
  subst hc
  rw [Addr.add_lit, Nat.zero_add, (Wd.Bx.new w 47 (vals o).toArray).cell j]
  simpa using hu
theorem run_appV (w : World) (ty : TypeId) (B : Nat) (v : Value) (L : List Vl) (hown : w.ownsRow B 47 4 v L.length (flatV L)) (ad : Addr) (o : Vl) (hc : ∀ j u, (vals o)[j]? = some u → w.cell? (ad.add j) = some u) (hL : L.length ≤ 1000000) (hB : B ≤ w.heap.size) :
    ∃ v' w', (Builtin.append_ #[48, 48] ty #[v, .slice (some ad) 1 1]).run Tryz.prog w = .ok v' w' ∧ w'.ownsRow B 47 4 v' (L ++ [o]).length (flatV (L ++ [o])) ∧ w.grownBy w' v.ownBlock := by
  obtain ⟨i0, hi, hz0, hz1, hz2⟩ := info_parts info_vl
  obtain ⟨v', w', hrun, h2, h3, _, _⟩ := run_append_own_at (P := Tryz.prog) w B 48 ty 47 i0 _ 4 40 Tryz.underlying48 hi hz0 hz1 hz2 rfl (by decide) v L.length _ hown ad 1 1 (vals o) rfl hc (vals_one o) (by unfold maxLen; omega) (by omega) hB
  exact ⟨v', w', hrun, by rw [List.length_append, flatV_app, flatV_one]; exact h2, h3⟩
theorem step_appV (w : World) {ops : Array Oper} {o : Oper} {a : Act} {K : Act → World → Prop} {Q : Exit → Act → World → Prop} {E : Prop} (hgd : o.guard = none) (s x : Operand)
    (ho : o.op = .call { callee := .builtin .append, args := #[s, x], argTypes := #[48, 48] })
    (B : Nat) (v : Value) (L : List Vl) (hs : a.eval s = v) (hown : w.ownsRow B 47 4 v L.length (flatV L)) (ad : Addr) (y : Vl) (hx : a.eval x = .slice (some ad) 1 1) (hc : ∀ j u, (vals y)[j]? = some u → w.cell? (ad.add j) = some u) (hL : L.length ≤ 1000000) (hB : B ≤ w.heap.size)
    (h : ∀ v' w', w'.ownsRow B 47 4 v' (L ++ [y]).length (flatV (L ++ [y])) → w.grownBy w' v.ownBlock → K (a.put o.dst v') w') : if Region.wanted o (yielded ops a.tmps) = true then Oper.wp Tryz.prog o a w K Q else E := by
  rw [if_pos (by simp [Region.wanted, hgd])]
  obtain ⟨v', w', hrun, h2, h3⟩ := run_appV w o.type B v L hown ad y hc hL hB
  unfold Oper.wp
  simp [execOp, ho, resolve, invoke, builtin, hs, hx, hrun, Result.andThen]
  exact h v' w' h2 h3
theorem wpList_appV1 (w : World) {ops : Array Oper} {rest : List Oper} {o : Oper} {a : Act} {Q : Exit → Act → World → Prop} (hgd : o.guard = none) (s x : Operand)
    (ho : o.op = .call { callee := .builtin .append, args := #[s, x], argTypes := #[48, 48] })
    (B : Nat) (v : Value) (L : List Vl) (hs : a.eval s = v) (hown : w.ownsRow B 47 4 v L.length (flatV L)) (ad : Addr) (y : Vl) (hx : a.eval x = .slice (some ad) 1 1) (hc : ∀ j u, (vals y)[j]? = some u → w.cell? (ad.add j) = some u) (hL : L.length ≤ 1000000) (hB : B ≤ w.heap.size)
    (h : ∀ v' w', w'.ownsRow B 47 4 v' (L ++ [y]).length (flatV (L ++ [y])) → w.grownBy w' v.ownBlock → wpList Tryz.prog ops Q rest (a.put o.dst v') w') : wpList Tryz.prog ops Q (o :: rest) a w := by
  refine wpList_plain hgd fun K hK => ?_
  obtain ⟨v', w', hrun, h2, h3⟩ := run_appV w o.type B v L hown ad y hc hL hB
  unfold Oper.wp
  simp [execOp, ho, resolve, invoke, builtin, hs, hx, hrun, Result.andThen]
  exact hK _ _ (h v' w' h2 h3)
end Wd
end Go.Proofs.YtaoeipehpakngaaGreatDoor
namespace Go.Proofs.YtaoeipehpakngaaGreatDoor
set_option maxRecDepth 20000
open Go.RowKit
namespace Sx
open Sc (Col Sch tr MayS)
open Va (Vl)
theorem v1_of {v : Vl} (h : Sc.Ok v) : Wd.V1 v := by
  obtain ⟨hm, h0, h1⟩ := h
  refine ⟨?_, ?_⟩
  · have : 0 ≤ v.kind ∧ v.kind ≤ 3 := by
      rcases hm with ⟨q, _⟩ | ⟨q, _⟩ | ⟨q, _⟩ | ⟨q, _⟩ <;> omega
    simp [Lit.wf, IntKind.min, IntKind.max, IntKind.signed, IntKind.bits] <;> omega
  · simp [Lit.wf, IntKind.min, IntKind.max, IntKind.signed, IntKind.bits] <;> omega
theorem v1_app {L : List Vl} {v : Vl} (h : ∀ j, j < L.length → Wd.V1 (L.getD j default)) (h1 : Wd.V1 v) : ∀ j, j < (L ++ [v]).length → Wd.V1 ((L ++ [v]).getD j default) := fun j hj => by
  rw [List.length_append, List.length_singleton] at hj
  by_cases q : j < L.length
  · rw [List.getD_eq_getElem?_getD, List.getElem?_append_left q, ← List.getD_eq_getElem?_getD]
    exact h j q
  · obtain rfl : j = L.length := by omega
    simpa using h1
end Sx
end Go.Proofs.YtaoeipehpakngaaGreatDoor
