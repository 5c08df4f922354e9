/- Words on memory: a slice of rows of values; a slice of columns; a segment; their boxes. A block of values that is known whole: what make leaves, a value stored at a place. What is kept while other blocks turn: blocks known whole, rows, maps; a world where nothing but given blocks has turned. What and what goes with it. -/
import Derived.Maps.AppendAt
import Derived.Maps.Own
import Derived.Maps.Views
import Derived.Laws.StructEq
import Derived.BigRegion
import Derived.Deep.RegionHeld3
import Derived.Deep.RegionWith
import Derived.BigQuiet
import Derived.Deep.QuietTactic
import Derived.Test.YtaoeipehpakngaaGreatDoorPa04
import Derived.Test.YtaoeipehpakngaaGreatDoorPa06
import Derived.Test.YtaoeipehpakngaaGreatDoorPa02
import Derived.Test.YtaoeipehpakngaaGreatDoorProg
namespace Go.Proofs.YtaoeipehpakngaaGreatDoor
set_option maxRecDepth 20000
open Go.RowKit
namespace Wd
open Va (Vl)
structure Ls (w : World) (A : Option Addr) (n c : Nat) (ys : List (List Vl)) : Prop where
  len : n = ys.length
  cap : n ≤ c
  max : c ≤ maxLen
  nil : A = none → c = 0
  at_ : ∀ j, j < ys.length → ∃ b o A' n' c', A = some ⟨b, o, none⟩ ∧ b < w.heap.size ∧ w.cell? ⟨b, o + j, none⟩ = some (.slice A' n' c') ∧ Vs w A' n' c' (ys.getD j [])
theorem Ls.below {w w' : World} {A : Option Addr} {n c : Nat} {ys : List (List Vl)} (h : Ls w A n c ys) (hb : Below w.heap.size w w') : Ls w' A n c ys :=
  ⟨h.len, h.cap, h.max, h.nil, fun j hj => by
    obtain ⟨b, o, A', n', c', e, hlt, hc, hs⟩ := h.at_ j hj
    have := hb.size
    exact ⟨b, o, A', n', c', e, by omega, (hb.cell (p := ⟨b, o + j, none⟩) hlt).trans hc, hs.below hb⟩⟩
theorem Ls.none_ (w : World) : Ls w none 0 0 [] := ⟨rfl, Nat.le_refl _, Nat.zero_le _, fun _ => rfl, fun _ h => by simp at h⟩
def Hv (w : World) (vs : List Value) (ys : List (List Vl)) : Prop := vs.length = ys.length ∧ ∀ j, j < ys.length → ∃ A n c, vs.getD j undef = .slice A n c ∧ Vs w A n c (ys.getD j [])
theorem Hv.below {w w' : World} {vs : List Value} {ys : List (List Vl)} (h : Hv w vs ys) (hb : Below w.heap.size w w') : Hv w' vs ys :=
  ⟨h.1, fun j hj => by obtain ⟨A, n, c, e, hV⟩ := h.2 j hj; exact ⟨A, n, c, e, hV.below hb⟩⟩
theorem getD_app_left {α : Type} {d : α} {l m : List α} {j : Nat} (h : j < l.length) : (l ++ m).getD j d = l.getD j d := by simp only [List.getD]; rw [List.getElem?_append_left h]
theorem getD_app_at {α : Type} {d : α} (l : List α) (x : α) : (l ++ [x]).getD l.length d = x := by simp [List.getD]
theorem Hv.set {w : World} {vs : List Value} {ys : List (List Vl)} {A : Option Addr} {n c : Nat} {y : List Vl} (h : Hv w vs ys) (k : Nat) (hv : Vs w A n c y) : Hv w (vs.set k (.slice A n c)) (ys.set k y) := by
  refine ⟨by simp [h.1], fun j hj => ?_⟩
  simp only [List.length_set] at hj
  by_cases q : k = j
  · subst q
    refine ⟨A, n, c, ?_, ?_⟩
    · simp [List.getD, h.1, hj]
    · simpa [List.getD, List.getElem?_set, hj] using hv
  · obtain ⟨A', n', c', e, hV⟩ := h.2 j hj
    refine ⟨A', n', c', ?_, ?_⟩
    · rw [← e]; simp [List.getD, q]
    · simpa [List.getD, List.getElem?_set, q] using hV
theorem Ls.of_own {w : World} {base n : Nat} {e : TypeId} {v : Value} {vs : List Value} {ys : List (List Vl)} (h : w.ownsRow base e 1 v n vs) (hs : Hv w vs ys) : ∃ A c, v = .slice A n c ∧ Ls w A n c ys := by
  have hn : n = ys.length := by have := h.1; rw [hs.1] at this; omega
  subst hn
  rcases h.2 with ⟨rfl, h0⟩ | ⟨g, cap, cur, rfl, hb, hg, h1, h2, h3, h4⟩
  · obtain rfl := List.eq_nil_of_length_eq_zero h0
    exact ⟨none, 0, rfl, Ls.none_ _⟩
  · refine ⟨_, _, rfl, ⟨rfl, h1, h2, by simp, fun j hj => ?_⟩⟩
    obtain ⟨A', n', c', e1, hS⟩ := hs.2 j hj
    refine ⟨g, 0, A', n', c', rfl, (Array.getElem?_eq_some_iff.1 hg).1, ?_, hS⟩
    have := h.cellAt (g := g) (cap := cap) j (by omega)
    rw [Nat.zero_add, this, ← e1]
    simp [List.getD, List.getElem?_eq_getElem (show j < vs.length by rw [hs.1]; exact hj)]
theorem Ls.of_bx {w : World} {g : Nat} {t : TypeId} {vs : List Value} {ys : List (List Vl)} (h : Bx w g t vs.toArray) (hs : Hv w vs ys) (n : Nat) (hn : n = ys.length) (hm : n ≤ maxLen) : Ls w (some ⟨g, 0, none⟩) n n ys :=
  ⟨hn, Nat.le_refl _, hm, by simp, fun j hj => by
    obtain ⟨A', n', c', e1, hS⟩ := hs.2 j hj
    refine ⟨g, 0, A', n', c', rfl, h.lt, ?_, hS⟩
    rw [Nat.zero_add, h.cell, ← e1]
    simp [List.getD, List.getElem?_eq_getElem (show j < vs.length by rw [hs.1]; exact hj)]⟩
structure Cr where
  A : Option Addr
  n : Nat
  c : Nat
  B : Option Addr
  m : Nat
  d : Nat
  C : Co.Col
instance : Inhabited Cr := ⟨⟨none, 0, 0, none, 0, 0, Co.none_⟩⟩
def Cr.vals (o : Cr) : List Value := [.int .i64 o.C.n, .slice o.A o.n o.c, .slice o.B o.m o.d]
def Cr1 (w : World) (o : Cr) : Prop := Cx.Cl w o.A o.n o.c o.B o.m o.d o.C
structure Cms (w : World) (A : Option Addr) (n c : Nat) (os : List Cr) : Prop where
  len : n = os.length
  cap : n ≤ c
  max : c ≤ maxLen
  nil : A = none → c = 0
  at_ : ∀ j, j < os.length → ∃ b o, A = some ⟨b, o, none⟩ ∧ b < w.heap.size ∧ (∀ i v, (os.getD j default).vals[i]? = some v → w.cell? ⟨b, o + (j * 3 + i), none⟩ = some v) ∧ Cr1 w (os.getD j default)
def cols (os : List Cr) : List Co.Col := os.map Cr.C
theorem cols_len (os : List Cr) : (cols os).length = os.length := by simp [cols]
theorem cols_get {os : List Cr} (j : Nat) : (cols os).getD j Co.none_ = (os.getD j default).C := by
  simp only [cols, List.getD, List.getElem?_map]
  cases os[j]? <;> rfl
section
variable {w w' : World} {A : Option Addr} {n c : Nat} {os : List Cr} {o : Cr}
theorem Cr1.below (h : Cr1 w o) (hb : Below w.heap.size w w') : Cr1 w' o := Cx.Cl.below h hb
theorem Cms.below (h : Cms w A n c os) (hb : Below w.heap.size w w') : Cms w' A n c os :=
  ⟨h.len, h.cap, h.max, h.nil, fun j hj => by
    obtain ⟨b, o, e, hlt, hc, h1⟩ := h.at_ j hj
    exact ⟨b, o, e, Nat.lt_of_lt_of_le hlt hb.size, fun i v hv => (hb.cell (p := ⟨b, o + (j * 3 + i), none⟩) hlt).trans (hc i v hv), h1.below hb⟩⟩
theorem Cms.none_ (w : World) : Cms w none 0 0 [] := ⟨rfl, Nat.le_refl _, Nat.zero_le _, fun _ => rfl, fun _ h => by simp at h⟩
theorem Cms.cells (h : Cms w A n c os) {j : Nat} (hj : j < os.length) {o : Cr} (ho : o = os.getD j default) : ∃ b f, A = some ⟨b, f, none⟩ ∧ b < w.heap.size ∧ w.cell? ⟨b, f + j * 3, none⟩ = some (.int .i64 o.C.n) ∧ w.cell? ⟨b, f + j * 3 + 1, none⟩ = some (.slice o.A o.n o.c) ∧ w.cell? ⟨b, f + j * 3 + 2, none⟩ = some (.slice o.B o.m o.d) ∧ Cr1 w o := by
  subst ho
  obtain ⟨b, f, e, hlt, hc, h1⟩ := h.at_ j hj
  exact ⟨b, f, e, hlt, hc 0 _ rfl, by rw [Nat.add_assoc]; exact hc 1 _ rfl, by rw [Nat.add_assoc]; exact hc 2 _ rfl, h1⟩
end
def flatC (L : List Cr) : List Value := L.flatMap Cr.vals
theorem flatC_app (L M : List Cr) : flatC (L ++ M) = flatC L ++ flatC M := List.flatMap_append
theorem flatC_one (v : Cr) : flatC [v] = v.vals := by simp [flatC]
theorem flatC_len : ∀ L : List Cr, (flatC L).length = L.length * 3
  | [] => rfl
  | v :: r => by
    have ih := flatC_len r
    have : flatC (v :: r) = v.vals ++ flatC r := rfl
    rw [this, List.length_append, ih, List.length_cons, Nat.add_mul]
    simp [Cr.vals]
    omega
theorem flatC_get : ∀ (L : List Cr) (j : Nat), j < L.length → ∀ i v, (L.getD j default).vals[i]? = some v → (flatC L)[j * 3 + i]? = some v
  | [], j, h, _, _, _ => by simp at h
  | x :: r, 0, _, i, v, hv => by
    have e : flatC (x :: r) = x.vals ++ flatC r := rfl
    have hv' : x.vals[i]? = some v := hv
    rw [e, Nat.zero_mul, Nat.zero_add, List.getElem?_append_left (List.getElem?_eq_some_iff.1 hv').1]
    exact hv'
  | x :: r, j + 1, h, i, v, hv => by
    have e : flatC (x :: r) = x.vals ++ flatC r := rfl
    have ih := flatC_get r j (by simpa using h) i v hv
    rw [e, List.getElem?_append_right (by simp [Cr.vals]; omega)]
    rw [show (j + 1) * 3 + i - x.vals.length = j * 3 + i by simp [Cr.vals]; omega]
    exact ih
theorem flatC_set : ∀ (L : List Cr) (p : Nat) (v : Cr), p < L.length → (((flatC L).set (p * 3) (.int .i64 v.C.n)).set (p * 3 + 1) (.slice v.A v.n v.c)).set (p * 3 + 2) (.slice v.B v.m v.d) = flatC (L.set p v)
  | [], _, _, h => by simp at h
  | f :: r, 0, v, _ => by
    show (((Value.int .i64 f.C.n :: .slice f.A f.n f.c :: .slice f.B f.m f.d :: flatC r).set _ _).set _ _).set _ _ = Value.int .i64 v.C.n :: .slice v.A v.n v.c :: .slice v.B v.m v.d :: flatC r
    simp
  | f :: r, p + 1, v, h => by
    have ih := flatC_set r p v (by simpa using h)
    have e : flatC (f :: r) = Value.int .i64 f.C.n :: .slice f.A f.n f.c :: .slice f.B f.m f.d :: flatC r := rfl
    have e2 : flatC ((f :: r).set (p + 1) v) = Value.int .i64 f.C.n :: .slice f.A f.n f.c :: .slice f.B f.m f.d :: flatC (r.set p v) := rfl
    rw [e, e2, ← ih, show (p + 1) * 3 = p * 3 + 1 + 1 + 1 by omega, show p * 3 + 1 + 1 + 1 + 1 = p * 3 + 1 + 1 + 1 + 1 from rfl, show p * 3 + 1 + 1 + 1 + 2 = p * 3 + 2 + 1 + 1 + 1 by omega]
    simp only [List.set_cons_succ]
end Wd
namespace Se
open Va (Vl)
open Wd (Cr)
structure Sg (w : World) (OA : Option Addr) (on oc : Nat) (CA : Option Addr) (cn cc : Nat) (os : List Cr) (x : Seg) : Prop where
  offs : Wd.Sl w .i64 OA on oc x.offs
  cols : Wd.Cms w CA cn cc os
  eq : x.cols = Wd.cols os
  fit : Wd.Fits .i64 x.offs
  w0 : (Lit.int .i64 x.part).wf = true
  w1 : (Lit.int .i64 x.id).wf = true
  w2 : (Lit.int .i64 x.st).wf = true
  w3 : (Lit.int .i64 x.en).wf = true
section
variable {w w' : World} {OA : Option Addr} {on oc : Nat} {CA : Option Addr} {cn cc : Nat} {os : List Cr} {x : Seg}
theorem Sg.below (h : Sg w OA on oc CA cn cc os x) (hb : Below w.heap.size w w') : Sg w' OA on oc CA cn cc os x :=
  ⟨h.offs.below hb, h.cols.below hb, h.eq, h.fit, h.w0, h.w1, h.w2, h.w3⟩
theorem Sg.none_ (w : World) : Sg w none 0 0 none 0 0 [] zero := ⟨Wd.Sl.none_ _ _, Wd.Cms.none_ _, rfl, (fun _ h => by cases h), by decide, by decide, by decide, by decide⟩
theorem Sg.num (h : Sg w OA on oc CA cn cc os x) : cn = x.cols.length := by rw [h.eq, Wd.cols_len]; exact h.cols.len
end
def Gb (w : World) (p : Nat) (a b c d : Int) (OA : Option Addr) (on oc : Nat) (CA : Option Addr) (cn cc : Nat) : Prop :=
  Wd.Bx w p 28 #[.int .i64 a, .int .i64 b, .int .i64 c, .int .i64 d, .slice OA on oc, .slice CA cn cc]
section
variable {w w' : World} {p : Nat} {a b c d : Int} {OA : Option Addr} {on oc : Nat} {CA : Option Addr} {cn cc : Nat}
theorem Gb.new (w : World) (a b c d : Int) (OA : Option Addr) (on oc : Nat) (CA : Option Addr) (cn cc : Nat) : Gb (w.alloc (.cells #[.int .i64 a, .int .i64 b, .int .i64 c, .int .i64 d, .slice OA on oc, .slice CA cn cc] 28)) w.heap.size a b c d OA on oc CA cn cc := Wd.Bx.new _ _ _
theorem Gb.six (h : Gb w p a b c d OA on oc CA cn cc) : (w.cell? ⟨p, 0, none⟩ = some (.int .i64 a) ∧ w.cell? ⟨p, 1, none⟩ = some (.int .i64 b) ∧ w.cell? ⟨p, 2, none⟩ = some (.int .i64 c) ∧ w.cell? ⟨p, 3, none⟩ = some (.int .i64 d) ∧ w.cell? ⟨p, 4, none⟩ = some (.slice OA on oc) ∧ w.cell? ⟨p, 5, none⟩ = some (.slice CA cn cc)) :=
  ⟨h.cell 0, h.cell 1, h.cell 2, h.cell 3, h.cell 4, h.cell 5⟩
end
end Se
namespace Wd
open Va (Vl null)
def RowV (w : World) (g : Nat) (L : List Vl) : Prop := Wd.Bx w g 47 (flatV L).toArray
theorem flatV_set : ∀ (L : List Vl) (p : Nat) (v : Vl), p < L.length → ((((flatV L).set (p * 4) (.int .i64 v.kind)).set (p * 4 + 1) (.int .i64 v.i)).set (p * 4 + 2) (.string v.s)).set (p * 4 + 3) (.bool v.b) = flatV (L.set p v)
  | [], _, _, h => by simp at h
  | f :: r, 0, v, _ => by
    show ((((Value.int .i64 f.kind :: .int .i64 f.i :: .string f.s :: .bool f.b :: flatV r).set _ _).set _ _).set _ _).set _ _ = Value.int .i64 v.kind :: .int .i64 v.i :: .string v.s :: .bool v.b :: flatV r
    simp
  | f :: r, p + 1, v, h => by
    have ih := flatV_set r p v (by simpa using h)
    have e : flatV (f :: r) = Value.int .i64 f.kind :: .int .i64 f.i :: .string f.s :: .bool f.b :: flatV r := rfl
    have e2 : flatV ((f :: r).set (p + 1) v) = Value.int .i64 f.kind :: .int .i64 f.i :: .string f.s :: .bool f.b :: flatV (r.set p v) := rfl
    rw [e, e2, ← ih, show (p + 1) * 4 = p * 4 + 1 + 1 + 1 + 1 by omega, show p * 4 + 1 + 1 + 1 + 1 + 1 = p * 4 + 1 + 1 + 1 + 1 + 1 from rfl, show p * 4 + 1 + 1 + 1 + 1 + 2 = p * 4 + 2 + 1 + 1 + 1 + 1 by omega, show p * 4 + 1 + 1 + 1 + 1 + 3 = p * 4 + 3 + 1 + 1 + 1 + 1 by omega]
    simp only [List.set_cons_succ]
section
variable {w w' : World} {g : Nat} {L : List Vl}
theorem RowV.lt (h : RowV w g L) : g < w.heap.size := Wd.Bx.lt h
theorem RowV.below {B : Nat} (h : RowV w g L) (hg : g < B) (hb : Below B w w') : RowV w' g L := Wd.Bx.below h hg hb
theorem RowV.drew (h : RowV w g L) : RowV w.drew g L := h
theorem RowV.other (h : RowV w g L) {a : Addr} {u : Value} (ha : g ≠ a.block) : RowV (w.setCell a u) g L := by
  unfold RowV Bx
  rw [heap_setCell_other w a g u ha]
  exact h
theorem RowV.four (h : RowV w g L) {p : Nat} (hp : p < L.length) : ∃ x : Vl, (w.cell? ⟨g, p * 4, none⟩ = some (.int .i64 x.kind) ∧ w.cell? ⟨g, p * 4 + 1, none⟩ = some (.int .i64 x.i) ∧ w.cell? ⟨g, p * 4 + 2, none⟩ = some (.string x.s) ∧ w.cell? ⟨g, p * 4 + 3, none⟩ = some (.bool x.b))
    ∧ (w.frozen? ⟨g, p * 4, none⟩ = false ∧ w.frozen? ⟨g, p * 4 + 1, none⟩ = false ∧ w.frozen? ⟨g, p * 4 + 2, none⟩ = false ∧ w.frozen? ⟨g, p * 4 + 3, none⟩ = false) := by
  have c : ∀ i v, (vals (L.getD p default))[i]? = some v → w.cell? ⟨g, p * 4 + i, none⟩ = some v := fun i v hv => (Wd.Bx.cell h (p * 4 + i)).trans (by rw [List.getElem?_toArray]; exact flatV_get L p hp i v hv)
  exact ⟨L.getD p default, ⟨c 0 _ rfl, c 1 _ rfl, c 2 _ rfl, c 3 _ rfl⟩, Wd.Bx.free h _, Wd.Bx.free h _, Wd.Bx.free h _, Wd.Bx.free h _⟩
theorem RowV.set (h : RowV w g L) (p : Nat) (hp : p < L.length) (v : Vl) : RowV ((((w.setCell ⟨g, p * 4, none⟩ (.int .i64 v.kind)).setCell ⟨g, p * 4 + 1, none⟩ (.int .i64 v.i)).setCell ⟨g, p * 4 + 2, none⟩ (.string v.s)).setCell ⟨g, p * 4 + 3, none⟩ (.bool v.b)) g (L.set p v) := by
  have h1 := heap_setCell_same w g (p * 4) _ _ (.int .i64 v.kind) h
  have h2 := heap_setCell_same _ g (p * 4 + 1) _ _ (.int .i64 v.i) h1
  have h3 := heap_setCell_same _ g (p * 4 + 2) _ _ (.string v.s) h2
  have h4 := heap_setCell_same _ g (p * 4 + 3) _ _ (.bool v.b) h3
  unfold RowV Bx
  rw [h4, ← flatV_set L p v hp]
  simp
theorem RowV.of_own {base n : Nat} (h : w.ownsRow base 47 4 (.slice (some ⟨g, 0, none⟩) n n) n (flatV L)) : RowV w g L ∧ base ≤ g ∧ n = L.length := by
  have hl : n = L.length := by have := h.1; rw [flatV_len] at this; omega
  rcases h.2 with ⟨h', _⟩ | ⟨g', cap', cur, h', hb, hg, _, _, hs, ht⟩
  · simp at h'
  · simp only [Value.slice.injEq, Option.some.injEq, Addr.mk.injEq, and_true, true_and] at h'
    obtain ⟨rfl, _, rfl⟩ := h'
    refine ⟨?_, hb, hl⟩
    unfold RowV Bx
    rw [hg]
    have : cur = (flatV L).toArray := by
      rw [← ht, List.take_of_length_le (by simp; omega)]
    rw [this]
theorem RowV.vs (h : RowV w g L) (n : Nat) (hn : n = L.length) (hm : n ≤ maxLen) (h1 : ∀ j, j < L.length → V1 (L.getD j default)) : Vs w (some ⟨g, 0, none⟩) n n L :=
  ⟨hn, Nat.le_refl _, hm, by simp, fun j hj => ⟨g, 0, rfl, h.lt, fun i v hv => by rw [Nat.zero_add]; exact (Wd.Bx.cell h (j * 4 + i)).trans (by rw [List.getElem?_toArray]; exact flatV_get L j hj i v hv), h1 j hj⟩⟩
end
theorem made_null (n : Nat) : (madeCells (Value.agg #[.int .i64 0, .int .i64 0, .string ⟨#[]⟩, .bool false]).cells (n * 4)).toList = flatV (List.replicate n null) := by
  refine List.ext_getElem? fun j => ?_
  by_cases hj : j < n * 4
  · have hk : j / 4 < (List.replicate n null).length := by simp; omega
    have e : (List.replicate n null).getD (j / 4) default = null := by simp [List.getD, show j / 4 < n by omega]
    have hi : j % 4 < 4 := Nat.mod_lt _ (by omega)
    have key : ∀ i, i < 4 → (vals null)[i]? = some ((#[Value.int .i64 0, .int .i64 0, .string ⟨#[]⟩, .bool false] : Array Value)[i]!) := by
      intro i hi
      match i, hi with
      | 0, _ => rfl
      | 1, _ => rfl
      | 2, _ => rfl
      | 3, _ => rfl
    have h2 := flatV_get (List.replicate n null) (j / 4) hk (j % 4) _ (by rw [e]; exact key _ hi)
    rw [show j / 4 * 4 + j % 4 = j by omega] at h2
    rw [h2]
    simp [madeCells, Value.cells, hj]
  · rw [List.getElem?_eq_none (by simp [madeCells]; omega), List.getElem?_eq_none (by rw [flatV_len]; simp; omega)]
end Wd
end Go.Proofs.YtaoeipehpakngaaGreatDoor
namespace Go.Proofs.YtaoeipehpakngaaGreatDoor
set_option maxRecDepth 20000
open Go.RowKit Go.Maps
namespace Wd
section
variable {w w' : World} {g : Nat} {t : TypeId} {cs : Array Value}
theorem Bx.set (h : Bx w g t cs) (j : Nat) (u : Value) : Bx (w.setCell ⟨g, j, none⟩ u) g t (cs.setIfInBounds j u) := by
  unfold Bx
  rw [heap_setCell_same w g j cs t _ h]
theorem Bx.other (h : Bx w g t cs) {a : Addr} (ha : g ≠ a.block) (u : Value) : Bx (w.setCell a u) g t cs := by
  unfold Bx
  rw [heap_setCell_other w a g u ha]
  exact h
theorem Bx.drew (h : Bx w g t cs) : Bx w.drew g t cs := h
theorem own_keep {B : Nat} {e : TypeId} {size n : Nat} {v : Value} {xs : List Value} (h : w.ownsRow B e size v n xs) (hk : ∀ x, v.ownBlock = some x → w'.heap[x]? = w.heap[x]?) : w'.ownsRow B e size v n xs := by
  obtain ⟨h1, h2⟩ := h
  refine ⟨h1, ?_⟩
  rcases h2 with h2 | ⟨g, cap, cur, hv, hg, hh, r⟩
  · exact .inl h2
  · exact .inr ⟨g, cap, cur, hv, hg, by rw [hk g (by rw [hv]; rfl)]; exact hh, r⟩
theorem own_lt {B : Nat} {e : TypeId} {size n : Nat} {v : Value} {xs : List Value} (h : w.ownsRow B e size v n xs) {x : Nat} (hx : v.ownBlock = some x) : x < w.heap.size ∧ B ≤ x ∧ ∃ cur, w.heap[x]? = some (.cells cur e (0, 0)) := by
  rcases h.2 with ⟨rfl, _⟩ | ⟨g, cap, cur, rfl, hg, hh, r⟩
  · simp [Value.ownBlock] at hx
  · have : g = x := by simpa [Value.ownBlock] using hx
    subst this
    exact ⟨lt_of_block hh, hg, cur, hh⟩
end
structure Mv (G : Nat → Prop) (w w' : World) : Prop where
  os : w'.os = w.os
  tape : w'.tape = w.tape
  output : w'.output = w.output
  size : w.heap.size ≤ w'.heap.size
  keep : ∀ g, g < w.heap.size → ¬ G g → w'.heap[g]? = w.heap[g]?
def Gr (G : Nat → Prop) (w w' : World) (g : Nat) : Prop := G g ∨ (w.heap.size ≤ g ∧ g < w'.heap.size)
section
variable {G : Nat → Prop} {w w' w'' : World} {B : Nat}
theorem Mv.refl (G : Nat → Prop) (w : World) : Mv G w w := ⟨rfl, rfl, rfl, Nat.le_refl _, fun _ _ _ => rfl⟩
theorem Mv.mono {G' : Nat → Prop} (h : Mv G w w') (hG : ∀ g, G g → G' g) : Mv G' w w' := ⟨h.os, h.tape, h.output, h.size, fun g hg hn => h.keep g hg (fun k => hn (hG g k))⟩
theorem Mv.trans (h : Mv G w w') (k : Mv (Gr G w w') w' w'') : Mv G w w'' :=
  ⟨k.os.trans h.os, k.tape.trans h.tape, k.output.trans h.output, Nat.le_trans h.size k.size, fun g hg hn =>
    (k.keep g (Nat.lt_of_lt_of_le hg h.size) (fun q => by rcases q with q | q; exact hn q; omega)).trans (h.keep g hg hn)⟩
theorem Mv.then (h : Mv G w w') (k : Mv G w' w'') : Mv G w w'' := h.trans (k.mono fun _ hg => .inl hg)
theorem Mv.of_below (h : Below w.heap.size w w') : Mv G w w' := ⟨h.os, h.tape, h.output, h.size, fun g hg _ => h.block g hg⟩
theorem Mv.of_grown {row : Option Nat} (h : w.grownBy w' row) (hr : ∀ g, row = some g → G g) : Mv G w w' :=
  ⟨h.os, h.tape, h.output, h.size, fun g hg hn => h.block g hg (fun e => hn (hr g e.symm))⟩
theorem Mv.below (h : Mv G w w') (hG : ∀ g, G g → B ≤ g) (hB : B ≤ w.heap.size) : Below B w w' :=
  ⟨h.os, h.tape, h.output, h.size, fun g hg => h.keep g (by omega) (fun k => by have := hG g k; omega)⟩
theorem Mv.alloc (h : Mv G w w') (o : Obj) : Mv G w (w'.alloc o) := h.then (Mv.of_grown (World.grownBy_alloc w' o none) (by simp))
theorem Mv.set (h : Mv G w w') {a : Addr} (ha : G a.block) (u : Value) : Mv G w (w'.setCell a u) :=
  h.then ⟨rfl, rfl, rfl, by simp [World.setCell], fun g hg hn => Below.heap_setCell _ _ _ _ (fun e => hn (e ▸ ha))⟩
theorem Mv.drew (h : Mv G w w') : Mv G w w'.drew := ⟨h.os, h.tape, h.output, h.size, h.keep⟩
end
end Wd
end Go.Proofs.YtaoeipehpakngaaGreatDoor
namespace Go.Proofs.YtaoeipehpakngaaGreatDoor
set_option maxRecDepth 20000
open Go.RowKit
namespace Wd
open Va (Vl null)
theorem Vs.keep {w w' : World} {A : Option Addr} {n c : Nat} {vs : List Vl} {G : Nat → Prop} (h : Vs w A n c vs) (mv : Mv G w w') (hA : ∀ a, A = some a → vs ≠ [] → ¬ G a.block) : Vs w' A n c vs :=
  ⟨h.len, h.cap, h.max, h.nil, fun j hj => by
    obtain ⟨b, o, e, hlt, hc, h1⟩ := h.at_ j hj
    refine ⟨b, o, e, Nat.lt_of_lt_of_le hlt mv.size, fun i v hv => ?_, h1⟩
    have := hc i v hv
    have hb := mv.keep b hlt (hA _ e (List.ne_nil_of_length_pos (by omega)))
    simp only [World.cell?, hb] at this ⊢
    exact this⟩
theorem Sl.keep {w w' : World} {k : IntKind} {A : Option Addr} {n c : Nat} {ys : List Int} {G : Nat → Prop} (h : Sl w k A n c ys) (mv : Mv G w w') (hA : ∀ a, A = some a → ys ≠ [] → ¬ G a.block) : Sl w' k A n c ys :=
  ⟨h.len, h.cap, h.max, h.nil, fun j hj => by
    obtain ⟨b, o, e, hlt, hc⟩ := h.rd j hj
    refine ⟨b, o, e, Nat.lt_of_lt_of_le hlt mv.size, ?_⟩
    have hb := mv.keep b hlt (hA _ e (List.ne_nil_of_length_pos (by omega)))
    simp only [World.cell?, hb] at hc ⊢
    exact hc⟩
theorem Sl.apart {w : World} {g : Nat} {t : TypeId} {cs : List Value} {A : Option Addr} {n c : Nat} {ys : List Int} (h : Sl w .u8 A n c ys) (hb : Bx w g t cs.toArray) (hn : ∀ v ∈ cs, ∀ x, v ≠ .int .u8 x) : ∀ a, A = some a → ys ≠ [] → a.block ≠ g := by
  intro a ha hv
  obtain ⟨b, f, e, _, hc⟩ := h.rd 0 (List.length_pos_iff.2 hv)
  rw [e] at ha
  cases ha
  rintro rfl
  rw [hb.cell, List.getElem?_toArray] at hc
  exact hn _ (List.mem_of_getElem? hc) _ rfl
theorem Vs.apart {w : World} {g : Nat} {t : TypeId} {cs : List Value} {A : Option Addr} {n c : Nat} {vs : List Vl} (h : Vs w A n c vs) (hb : Bx w g t cs.toArray) (hn : ∀ v ∈ cs, ∀ x, v ≠ .string x) : ∀ a, A = some a → vs ≠ [] → a.block ≠ g := by
  intro a ha hv
  obtain ⟨b, f, e, _, _, _, d2, _⟩ := h.cells (j := 0) (List.length_pos_iff.2 hv) rfl
  rw [e] at ha
  cases ha
  rintro rfl
  rw [hb.cell, List.getElem?_toArray] at d2
  exact hn _ (List.mem_of_getElem? d2) _ rfl
theorem flatC_no (L : List Cr) : ∀ v ∈ flatC L, ∀ x, v ≠ .int .u8 x := by
  intro v hv x
  obtain ⟨o, _, h⟩ := List.mem_flatMap.1 hv
  simp only [Cr.vals, List.mem_cons, List.not_mem_nil, or_false] at h
  rcases h with rfl | rfl | rfl <;> simp
theorem Bx.set3 {w : World} {g : Nat} {t : TypeId} {L : List Cr} (h : Bx w g t (flatC L).toArray) (p : Nat) (hp : p < L.length) (v : Cr) :
    Bx (((w.setCell ⟨g, p * 3, none⟩ (.int .i64 v.C.n)).setCell ⟨g, p * 3 + 1, none⟩ (.slice v.A v.n v.c)).setCell ⟨g, p * 3 + 2, none⟩ (.slice v.B v.m v.d)) g t (flatC (L.set p v)).toArray := by
  have h1 := heap_setCell_same w g (p * 3) _ t (.int .i64 v.C.n) h
  have h2 := heap_setCell_same _ g (p * 3 + 1) _ t (.slice v.A v.n v.c) h1
  have h3 := heap_setCell_same _ g (p * 3 + 2) _ t (.slice v.B v.m v.d) h2
  unfold Bx
  rw [h3, ← flatC_set L p v hp]
  simp
theorem made_col (n : Nat) : (madeCells (Value.agg #[.int .i64 0, .slice none 0 0, .slice none 0 0]).cells (n * 3)).toList = flatC (List.replicate n default) := by
  refine List.ext_getElem? fun j => ?_
  by_cases hj : j < n * 3
  · have hk : j / 3 < (List.replicate n (default : Cr)).length := by simp; omega
    have e : (List.replicate n (default : Cr)).getD (j / 3) default = default := by simp [List.getD, show j / 3 < n by omega]
    have hi : j % 3 < 3 := Nat.mod_lt _ (by omega)
    have key : ∀ i, i < 3 → (default : Cr).vals[i]? = some ((#[Value.int .i64 0, .slice none 0 0, .slice none 0 0] : Array Value)[i]!) := by
      intro i hi
      match i, hi with
      | 0, _ => rfl
      | 1, _ => rfl
      | 2, _ => rfl
    have h2 := flatC_get (List.replicate n (default : Cr)) (j / 3) hk (j % 3) _ (by rw [e]; exact key _ hi)
    rw [show j / 3 * 3 + j % 3 = j by omega] at h2
    rw [h2]
    simp [madeCells, Value.cells, hj]
  · rw [List.getElem?_eq_none (by simp [madeCells]; omega), List.getElem?_eq_none (by rw [flatC_len]; simp; omega)]
theorem info_col : (Tryz.prog.info? 57).map (fun i => (i.zero, i.size, i.bytes)) = some (some (.agg #[.int .i64 0, .slice none 0 0, .slice none 0 0]), 3, 56) := by kernel_rfl
end Wd
namespace Se
open Va (Vl)
open Wd (Cr)
end Se
namespace Vc
open Va
def mayB (k i : Int) (s : ByteArray) (b : Bool) : Bool :=
  decide (k = 0 ∧ i = 0 ∧ s = ⟨#[]⟩ ∧ b = false) || decide (k = 1 ∧ s = ⟨#[]⟩ ∧ b = false) || decide (k = 2 ∧ i = 0 ∧ s.size ≤ 64 ∧ b = false) || decide (k = 3 ∧ i = 0 ∧ s = ⟨#[]⟩)
theorem mayB_iff (k i : Int) (s : ByteArray) (b : Bool) : mayB k i s b = true ↔ May ⟨k, i, s, b⟩ := by
  unfold mayB May
  simp [or_assoc]
theorem list_beq (s t : ByteArray) : (s.toList == t.toList) = decide (s = t) := by
  rw [ByteArray.toList_eq, ByteArray.toList_eq]
  by_cases h : s = t
  · subst h; simp
  · rw [decide_eq_false h]
    have : ¬ s.data.toList = t.data.toList := fun q => h (WideShapes.bytes_inj q)
    simpa using this
theorem eqV (k i : Int) (s : ByteArray) (b : Bool) (k' i' : Int) (s' : ByteArray) (b' : Bool) (w : World) :
    (Op.equalIn 10000 47 (.agg #[.int .i64 k, .int .i64 i, .string s, .bool b]) (.agg #[.int .i64 k', .int .i64 i', .string s', .bool b'])).run Tryz.prog w = .ok (decide (k = k' ∧ i = i' ∧ s = s' ∧ b = b')) w := by
  have u3 := Tryz.underlying3
  have u4 := Tryz.underlying4
  have u9 := Tryz.underlying9
  rw [show (10000 : Nat) = 9999 + 1 from rfl, run_equalIn_struct _ _ _ _ _ (by kernel_rfl) (by kernel_rfl)]
  rw [show (Tryz.prog.fieldsOf 47).toList = [{ name := "Kind", type := 3, offset := 0, embedded := false, tag := "", pkgPath := "", byteOffset := 0 }, { name := "I", type := 3, offset := 1, embedded := false, tag := "", pkgPath := "", byteOffset := 8 }, { name := "S", type := 9, offset := 2, embedded := false, tag := "", pkgPath := "", byteOffset := 16 }, { name := "B", type := 4, offset := 3, embedded := false, tag := "", pkgPath := "", byteOffset := 32 }] by kernel_rfl]
  have g := list_beq s s'
  by_cases h1 : k = k' <;> by_cases h2 : i = i' <;> by_cases h3 : s = s' <;> by_cases h4 : b = b' <;> simp [h3] at g <;> go_simp <;> simp_all
theorem may_own {k i : Int} {s : ByteArray} {b : Bool} (h : k = 0 ∨ k = 1 ∨ k = 3 ∨ (k = 2 ∧ s.size ≤ 64)) : decide (k = k ∧ i = ownI k i ∧ s = ownS k s ∧ b = ownB k b) = mayB k i s b := by
  unfold mayB ownI ownS ownB
  rcases h with rfl | rfl | rfl | ⟨rfl, h⟩ <;> simp_all
theorem may_long {i : Int} {s : ByteArray} {b : Bool} (h : 64 < s.size) : mayB 2 i s b = false := by
  unfold mayB
  have : ¬ s.size ≤ 64 := by omega
  simp [this]
theorem may_else {k i : Int} {s : ByteArray} {b : Bool} (h0 : k ≠ 0) (h1 : k ≠ 1) (h2 : k ≠ 2) (h3 : k ≠ 3) : mayB k i s b = false := by
  unfold mayB
  simp [h0, h1, h2, h3]
set_option maxHeartbeats 2000000 in
theorem may_any (k i : Int) (s : ByteArray) (b : Bool) (w : World) :
    Calls Tryz.prog 149 #[.agg #[.int .i64 k, .int .i64 i, .string s, .bool b]] w fun e w' => e = .returned (.bool (mayB k i s b)) ∧ Below w.heap.size w w' := by
  by_cases hc : k = 0 ∨ k = 1 ∨ k = 3 ∨ (k = 2 ∧ s.size ≤ 64)
  · have heq := fun w => eqV k i s b k (ownI k i) (ownS k s) (ownB k b) w
    rw [may_own hc] at heq
    obtain ⟨r, hr⟩ : ∃ r, r = mayB k i s b := ⟨_, rfl⟩
    rw [← hr] at heq ⊢
    clear hr
    have hg : Tryz.prog.eqGuardType Tryz.prog.depth 47 = false := by kernel_rfl
    have Co := Lib.hid own_any
    rcases hc with rfl | rfl | rfl | ⟨rfl, hs⟩
    · go_enter Tryz.func149, Tryz.ntmps149
      go_wp2_with fail
      have hb0 := (Below.refl w.heap.size w).alloc (Nat.le_refl _) (.cells #[.int .i64 0, .int .i64 i, .string s, .bool b] 47)
      have v0 : Vb (w.alloc (.cells #[.int .i64 0, .int .i64 i, .string s, .bool b] 47)) w.heap.size 0 i s b := Wd.Bx.new w _ _
      generalize w.alloc (.cells #[.int .i64 0, .int .i64 i, .string s, .bool b] 47) = w1 at *
      have hl0 := Wd.Bx.lt v0
      obtain ⟨⟨u0, u1, u2, u3⟩, -⟩ := four v0
      go_region_with (first | (go_at_call 190; (with_reducible refine (Co.out _ _ _ _ _).mono ?_); rintro e w2 ⟨rfl, hB2⟩; have hb2 : Below w1.heap.size w1 w2 := Wd.of_drew hB2; obtain ⟨⟨_, _, _, _⟩, -⟩ := four (Wd.Bx.below v0 hl0 hb2)))
      all_goals (go_wp2_with fail; go_ret; exact ⟨rfl, hb0.trans (hb2.mono hb0.size)⟩)
    · go_enter Tryz.func149, Tryz.ntmps149
      go_wp2_with fail
      have hb0 := (Below.refl w.heap.size w).alloc (Nat.le_refl _) (.cells #[.int .i64 1, .int .i64 i, .string s, .bool b] 47)
      have v0 : Vb (w.alloc (.cells #[.int .i64 1, .int .i64 i, .string s, .bool b] 47)) w.heap.size 1 i s b := Wd.Bx.new w _ _
      generalize w.alloc (.cells #[.int .i64 1, .int .i64 i, .string s, .bool b] 47) = w1 at *
      have hl0 := Wd.Bx.lt v0
      obtain ⟨⟨u0, u1, u2, u3⟩, -⟩ := four v0
      go_region_with (first | (go_at_call 190; (with_reducible refine (Co.out _ _ _ _ _).mono ?_); rintro e w2 ⟨rfl, hB2⟩; have hb2 : Below w1.heap.size w1 w2 := Wd.of_drew hB2; obtain ⟨⟨_, _, _, _⟩, -⟩ := four (Wd.Bx.below v0 hl0 hb2)))
      all_goals (go_wp2_with fail; go_ret; exact ⟨rfl, hb0.trans (hb2.mono hb0.size)⟩)
    · go_enter Tryz.func149, Tryz.ntmps149
      go_wp2_with fail
      have hb0 := (Below.refl w.heap.size w).alloc (Nat.le_refl _) (.cells #[.int .i64 3, .int .i64 i, .string s, .bool b] 47)
      have v0 : Vb (w.alloc (.cells #[.int .i64 3, .int .i64 i, .string s, .bool b] 47)) w.heap.size 3 i s b := Wd.Bx.new w _ _
      generalize w.alloc (.cells #[.int .i64 3, .int .i64 i, .string s, .bool b] 47) = w1 at *
      have hl0 := Wd.Bx.lt v0
      obtain ⟨⟨u0, u1, u2, u3⟩, -⟩ := four v0
      go_region_with (first | (go_at_call 190; (with_reducible refine (Co.out _ _ _ _ _).mono ?_); rintro e w2 ⟨rfl, hB2⟩; have hb2 : Below w1.heap.size w1 w2 := Wd.of_drew hB2; obtain ⟨⟨_, _, _, _⟩, -⟩ := four (Wd.Bx.below v0 hl0 hb2)))
      all_goals (go_wp2_with fail; go_ret; exact ⟨rfl, hb0.trans (hb2.mono hb0.size)⟩)
    · have hsI : ¬ (64 : Int) < (s.size : Int) := by omega
      go_enter Tryz.func149, Tryz.ntmps149
      go_wp2_with fail
      have hb0 := (Below.refl w.heap.size w).alloc (Nat.le_refl _) (.cells #[.int .i64 2, .int .i64 i, .string s, .bool b] 47)
      have v0 : Vb (w.alloc (.cells #[.int .i64 2, .int .i64 i, .string s, .bool b] 47)) w.heap.size 2 i s b := Wd.Bx.new w _ _
      generalize w.alloc (.cells #[.int .i64 2, .int .i64 i, .string s, .bool b] 47) = w1 at *
      have hl0 := Wd.Bx.lt v0
      obtain ⟨⟨u0, u1, u2, u3⟩, -⟩ := four v0
      go_region_with (first | (go_at_call 190; (with_reducible refine (Co.out _ _ _ _ _).mono ?_); rintro e w2 ⟨rfl, hB2⟩; have hb2 : Below w1.heap.size w1 w2 := Wd.of_drew hB2; obtain ⟨⟨_, _, _, _⟩, -⟩ := four (Wd.Bx.below v0 hl0 hb2)))
      all_goals (go_wp2_with fail; go_ret; exact ⟨rfl, hb0.trans (hb2.mono hb0.size)⟩)
  · obtain ⟨r, hr⟩ : ∃ r, r = mayB k i s b := ⟨_, rfl⟩
    have hf : mayB k i s b = false := by
      by_cases h2 : k = 2
      · subst h2
        exact may_long (by omega)
      · exact may_else (by omega) (by omega) h2 (by omega)
    rw [hf]
    clear hr hf
    by_cases h2 : k = 2
    · subst h2
      have hsI : (64 : Int) < (s.size : Int) := by omega
      go_enter Tryz.func149, Tryz.ntmps149
      go_wp2_with fail
      go_ret
      exact ⟨rfl, (Below.refl _ _).alloc (Nat.le_refl _) _⟩
    · have q0 : (k == 0) = false := by simp; omega
      have q1 : (k == 1) = false := by simp; omega
      have q2 : (k == 2) = false := by simp; omega
      have q3 : (k == 3) = false := by simp; omega
      clear hc h2
      go_enter Tryz.func149, Tryz.ntmps149
      go_wp2_with fail
      go_ret
      exact ⟨rfl, (Below.refl _ _).alloc (Nat.le_refl _) _⟩
end Vc
end Go.Proofs.YtaoeipehpakngaaGreatDoor
