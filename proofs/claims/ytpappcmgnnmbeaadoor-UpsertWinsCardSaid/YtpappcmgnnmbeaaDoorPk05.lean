/- A map keyed by values: a key's text, the numbers of a list of values as a map, what is found in it. Words on memory, over any program: a row of numbers that is known whole, a variable that a function has captured, an answer of a slice and an error's number, a slice cut at both ends, what make leaves. Words on memory, over any program: a block that is known whole; a row that is filled place by place; a cut of a slice that begins at a known place. What is kept while other blocks turn: blocks known whole, rows, maps; a world where nothing but given blocks has turned. -/
import Derived.DeepKeys4
import Derived.Maps.Own
import Derived.Maps.OwnOps
import Derived.Maps.Views
import Derived.WalkKit
import Derived.Maps.AppendAt
import Derived.Test.YtpappcmgnnmbeaaDoorPk02
import Derived.Test.YtpappcmgnnmbeaaDoorPk04
import Derived.Test.YtpappcmgnnmbeaaDoorPk01
import Derived.Test.YtpappcmgnnmbeaaDoorProg
namespace Go.Proofs.YtpappcmgnnmbeaaDoor
set_option maxRecDepth 20000
open Go.RowKit Go.Maps
namespace Dm
open Va (Vl)
open Dc (fnd fndF fnd_pos fnd_none fnd_app)
theorem laidOut : laidOutB Tryd.prog = true := by kernel_rfl
theorem wide : (match Tryd.prog.underlying 27 with | some (.array _ _) | some (.struct _) => true | _ => false) = true := by rw [Tryd.underlying27]
theorem law : Keyed Tryd.prog 27 := Keyed.of_law (deep_law_laid laidOut (m := 2) (by omega) (of_decide_eq_true (by kernel_rfl)) (by kernel_rfl) wide)
/-- A key's text. -/
def keyL (v : Vl) : List Lit := [.int .i64 v.kind, .int .i64 v.i, .string v.s.data.toList, .bool v.b]
def keyV (v : Vl) : Lit := .string (keyBytes (keyL v))
theorem keyLits_v {P : Program} {t : TypeId} {f0 f1 f2 f3 : Field} (T : Wd.VlT P t f0 f1 f2 f3) (hn : (#[f0, f1, f2, f3] : Array Field).all (·.name != "_") = true) (d : Nat) {v : Vl} (h1 : Wd.V1 v) (hs : v.s.size ≤ maxLen) :
    P.keyLits (d + 2) t [.int .i64 v.kind, .int .i64 v.i, .string v.s, .bool v.b] = some (keyL v) := by
  have a0 := h1.w0
  have a1 := h1.w1
  simp only [Program.keyLits, T.u, T.c]
  rw [if_pos ⟨rfl, hn⟩]
  simp [T.o0, T.o1, T.o2, T.o3, T.c0, T.c1, T.c2, T.c3, T.u0, T.u1, T.u2, T.u3, a0, a1, hs, keyL]
theorem names_ok : (match Tryd.prog.underlying 27 with | some (.struct fs) => fs.all (·.name != "_") | _ => false) = true := by kernel_rfl
theorem one_le : 1 ≤ Tryd.prog.types.size := of_decide_eq_true (by kernel_rfl)
theorem key_of {v : Vl} (h1 : Wd.V1 v) (hs : v.s.size ≤ maxLen) : keyOf Tryd.prog 27 (.agg #[.int .i64 v.kind, .int .i64 v.i, .string v.s, .bool v.b]) = some (keyV v) := by
  obtain ⟨f0, f1, f2, f3, T⟩ := Wd.vlT
  have hn := names_ok
  rw [T.u] at hn
  have hk : Tryd.prog.keyType 27 = true := by kernel_rfl
  have hf : (Value.agg #[.int .i64 v.kind, .int .i64 v.i, .string v.s, .bool v.b]).formed Tryd.prog 27 = true := by simp [Value.formed, T.u, T.c]
  have hl := keyLits_v T hn (Tryd.prog.types.size - 1) h1 hs
  rw [show Tryd.prog.types.size - 1 + 2 = Tryd.prog.types.size + 1 by have := one_le; omega] at hl
  unfold keyOf
  rw [T.u]
  simp only [hk, hf, Bool.and_self, if_true]
  show (Tryd.prog.keyLits _ _ [.int .i64 v.kind, .int .i64 v.i, .string v.s, .bool v.b]).map _ = _
  rw [hl]
  rfl
theorem keyV_inj {u v : Vl} (hu : Wd.V1 u) (su : u.s.size ≤ maxLen) (hv : Wd.V1 v) (sv : v.s.size ≤ maxLen) (h : keyV u = keyV v) : u = v := by
  have a := key_of hu su
  have b := key_of hv sv
  rw [← h] at b
  have e := law.inj a b
  obtain ⟨k, i, s, t⟩ := u
  obtain ⟨k', i', s', t'⟩ := v
  simp only [Value.agg.injEq, Array.mk.injEq, List.cons.injEq, Value.int.injEq, Value.string.injEq, Value.bool.injEq, true_and, and_true] at e
  obtain ⟨rfl, rfl, rfl, rfl⟩ := e
  rfl
theorem keyV_key (v : Vl) : WideAt.IsKeyLit (keyV v) := by simp [keyV, WideAt.IsKeyLit]
/-- Values whose numbers are the machine's. -/
def Okk (l : List Vl) : Prop := ∀ x ∈ l, Wd.V1 x ∧ x.s.size ≤ maxLen
/-- The numbers of a list of values, as a map. -/
def ddF : List Vl → Nat → DataW Unit → DataW Unit
  | [], _, D => D
  | v :: l, i, D => ddF l (i + 1) (D.put (keyV v) (.lit (.int .i64 (i : Int))))
def Dd (l : List Vl) : DataW Unit := ddF l 0 (.map [])
theorem ddF_app : ∀ (l : List Vl) (v : Vl) (i : Nat) (D : DataW Unit), ddF (l ++ [v]) i D = (ddF l i D).put (keyV v) (.lit (.int .i64 ((i + l.length : Nat) : Int)))
  | [], v, i, D => by simp [ddF]
  | a :: l, v, i, D => by
    show ddF (l ++ [v]) (i + 1) _ = (ddF l (i + 1) _).put _ _
    rw [ddF_app l v (i + 1), List.length_cons, show i + 1 + l.length = i + (l.length + 1) by omega]
theorem Dd_app (l : List Vl) (v : Vl) : Dd (l ++ [v]) = (Dd l).put (keyV v) (.lit (.int .i64 (l.length : Int))) := by
  unfold Dd
  rw [ddF_app, Nat.zero_add]
theorem ddF_at {v : Vl} (hv : Wd.V1 v ∧ v.s.size ≤ maxLen) (z : DataW Unit) : ∀ (l : List Vl) (i : Nat) (D : DataW Unit), IsMap D → Okk l → l.Nodup → (ddF l i D).atKey (keyV v) z = if v ∈ l then .lit (.int .i64 (fndF l v (i : Int))) else D.atKey (keyV v) z
  | [], i, D, _, _, _ => by simp [ddF]
  | a :: l, i, D, hD, hl, hn => by
    rw [List.nodup_cons] at hn
    have ih := ddF_at hv z l (i + 1) (D.put (keyV a) (.lit (.int .i64 (i : Int)))) (hD.put _ _) (fun x hx => hl x (by simp [hx])) hn.2
    show (ddF l (i + 1) _).atKey _ _ = _
    rw [ih]
    by_cases e : a = v
    · subst e
      rw [if_neg hn.1, if_pos (by simp), atKey_put_same hD (keyV_key a), fndF, if_pos rfl]
    · have hne : keyV v ≠ keyV a := fun q => e (keyV_inj (hl a (by simp)).1 (hl a (by simp)).2 hv.1 hv.2 q.symm)
      rw [fndF, if_neg e, atKey_put_other hne]
      by_cases q : v ∈ l
      · rw [if_pos q, if_pos (by simp [q])]
        rfl
      · rw [if_neg q, if_neg (by simp [q]; exact fun h => e h.symm)]
theorem ddF_has {v : Vl} (hv : Wd.V1 v ∧ v.s.size ≤ maxLen) : ∀ (l : List Vl) (i : Nat) (D : DataW Unit), IsMap D → Okk l → has (ddF l i D) (keyV v) = (decide (v ∈ l) || has D (keyV v))
  | [], i, D, _, _ => by simp [ddF]
  | a :: l, i, D, hD, hl => by
    have ih := ddF_has hv l (i + 1) (D.put (keyV a) (.lit (.int .i64 (i : Int)))) (hD.put _ _) (fun x hx => hl x (by simp [hx]))
    show has (ddF l (i + 1) _) _ = _
    rw [ih]
    by_cases e : a = v
    · subst e
      rw [has_put_same hD (keyV_key a)]
      simp
    · have hne : keyV v ≠ keyV a := fun q => e (keyV_inj (hl a (by simp)).1 (hl a (by simp)).2 hv.1 hv.2 q.symm)
      rw [has_put_other hne]
      simp [show ¬ v = a from fun h => e h.symm]
/-- Is a value found, and with which number? -/
theorem Dd_has {l : List Vl} (hl : Okk l) {v : Vl} (hv : Wd.V1 v ∧ v.s.size ≤ maxLen) : has (Dd l) (keyV v) = decide (v ∈ l) := by
  unfold Dd
  rw [ddF_has hv l 0 _ ⟨[], rfl⟩ hl]
  have : has (DataW.map [] : DataW Unit) (keyV v) = false := rfl
  rw [this, Bool.or_false]
theorem Dd_at {l : List Vl} (hl : Okk l) (hn : l.Nodup) {v : Vl} (hv : Wd.V1 v ∧ v.s.size ≤ maxLen) (z : DataW Unit) : (Dd l).atKey (keyV v) z = if v ∈ l then .lit (.int .i64 (fnd l v)) else z := by
  unfold Dd
  rw [ddF_at hv z l 0 _ ⟨[], rfl⟩ hl hn]
  rfl
theorem Dd_map (l : List Vl) : IsMap (Dd l) := by
  have : ∀ (l : List Vl) (i : Nat) (D : DataW Unit), IsMap D → IsMap (ddF l i D) := by
    intro l
    induction l with
    | nil => intro i D h; exact h
    | cons a l ih => intro i D h; exact ih _ _ (h.put _ _)
  exact this l 0 _ ⟨[], rfl⟩
end Dm
end Go.Proofs.YtpappcmgnnmbeaaDoor
namespace Go.Proofs.YtpappcmgnnmbeaaDoor
set_option maxRecDepth 20000
open Go.RowKit
namespace Wd
/-- Block g is a row of the numbers ys, of kind k and type e, that may be written. -/
def Row (w : World) (g : Nat) (k : IntKind) (e : TypeId) (ys : List Int) : Prop := w.heap[g]? = some (.cells (ys.map (Value.int k)).toArray e (0, 0))
/-- Block p is a variable of type e that holds v. -/
def Var (w : World) (p : Nat) (e : TypeId) (v : Value) : Prop := w.heap[p]? = some (.cells #[v] e (0, 0))
section
variable {w w' : World} {g p : Nat} {k : IntKind} {e : TypeId} {ys : List Int} {v u : Value}
theorem Row.lt (h : Row w g k e ys) : g < w.heap.size := lt_of_block h
theorem Row.cell (h : Row w g k e ys) (j : Nat) (hj : j < ys.length) : w.cell? ⟨g, j, none⟩ = some (.int k (ys.getD j 0)) := by
  rw [cell_of_row w g j _ e (0, 0) h]
  simp [List.getD, List.getElem?_eq_getElem hj]
theorem Row.free (h : Row w g k e ys) (j : Nat) : w.frozen? ⟨g, j, none⟩ = false := frozen_of_row w g j _ e h
theorem Row.set (h : Row w g k e ys) (j : Nat) (x : Int) : Row (w.setCell ⟨g, j, none⟩ (.int k x)) g k e (ys.set j x) := by
  unfold Row
  rw [heap_setCell_same w g j _ e _ h]
  simp [List.map_set]
theorem Row.other (h : Row w g k e ys) {a : Addr} (ha : g ≠ a.block) : Row (w.setCell a u) g k e ys := by
  unfold Row
  rw [heap_setCell_other w a g u ha]
  exact h
theorem Row.drew (h : Row w g k e ys) : Row w.drew g k e ys := h
theorem Row.alloc (h : Row w g k e ys) (o : Obj) : Row (w.alloc o) g k e ys := by
  unfold Row
  rw [Below.heap_alloc w o g h.lt]
  exact h
theorem Row.below {B : Nat} (h : Row w g k e ys) (hg : g < B) (hb : Below B w w') : Row w' g k e ys := by
  unfold Row
  rw [hb.block g hg]
  exact h
theorem Row.of_own {base n : Nat} (h : w.ownsRow base e 1 (.slice (some ⟨g, 0, none⟩) n n) n (ys.map (Value.int k))) : Row w g k e ys ∧ base ≤ g ∧ n = ys.length := by
  have hl : n = ys.length := by have := h.1; simpa using this.symm
  rcases h.2 with ⟨h', _⟩ | ⟨g', cap', cur, h', hb, hg, _, _, hs, ht⟩
  · simp at h'
  · simp only [Value.slice.injEq, Option.some.injEq, Addr.mk.injEq, and_true, true_and] at h'
    obtain ⟨rfl, rfl⟩ := h'
    refine ⟨?_, hb, hl⟩
    unfold Row
    rw [hg]
    have : cur = (ys.map (Value.int k)).toArray := by
      rw [← ht, List.take_of_length_le (by simp; omega)]
    rw [this]
theorem Row.sl (h : Row w g k e ys) (n : Nat) (hn : n = ys.length) (hm : n ≤ maxLen) : Sl w k (some ⟨g, 0, none⟩) n n ys :=
  ⟨hn, Nat.le_refl _, hm, by simp, Rd.mk h.lt fun j hj => by rw [Nat.zero_add]; exact h.cell j hj⟩
theorem Var.lt (h : Var w p e v) : p < w.heap.size := lt_of_block h
theorem Var.cell (h : Var w p e v) : w.cell? ⟨p, 0, none⟩ = some v := cell_of_one h
theorem Var.free (h : Var w p e v) : w.frozen? ⟨p, 0, none⟩ = false := free_of_one h
theorem Var.set (h : Var w p e v) : Var (w.setCell ⟨p, 0, none⟩ u) p e u := one_setCell h
theorem Var.other (h : Var w p e v) {a : Addr} (ha : p ≠ a.block) : Var (w.setCell a u) p e v := by
  unfold Var
  rw [heap_setCell_other w a p u ha]
  exact h
theorem Var.alloc (h : Var w p e v) (o : Obj) : Var (w.alloc o) p e v := by
  unfold Var
  rw [Below.heap_alloc w o p h.lt]
  exact h
theorem Var.new (w : World) (e : TypeId) (v : Value) : Var (w.alloc (.cells #[v] e)) w.heap.size e v := heap_alloc_new w _
theorem Var.drew (h : Var w p e v) : Var w.drew p e v := h
end
/-- A call of w ended in w' with a slice of the numbers ys and an error's number, and nothing that was there has turned. -/
def Out2 (w : World) (k : IntKind) (ys : List Int) (er : Int) (e : Ending) (w' : World) : Prop :=
  ∃ A n c, e = .returned (.tuple #[.slice A n c, .int .i64 er]) ∧ Sl w' k A n c ys ∧ Below w.heap.size w w'
theorem Out2.err (w w' : World) (k : IntKind) (er : Int) (h : Below w.heap.size w w') : Out2 w k [] er (.returned (.tuple #[.slice none 0 0, .int .i64 er])) w' := ⟨none, 0, 0, rfl, Sl.none_ _ _, h⟩
/-- The cut 's[lo:hi]'. -/
theorem Sl.mid {w : World} {k : IntKind} {A : Option Addr} {n c : Nat} {ys : List Int} (h : Sl w k A n c ys) (lo hi : Nat) (h1 : lo ≤ hi) (h2 : hi ≤ n) : Sl w k (if c = lo then A else A.map (·.add lo)) (hi - lo) (c - lo) ((ys.drop lo).take (hi - lo)) :=
  (h.cut lo (by omega)).head (hi - lo) (by omega)
theorem Sl.mid' {w : World} {k : IntKind} {A : Option Addr} {n c : Nat} {ys : List Int} (h : Sl w k A n c ys) (lo hi : Nat) (h1 : lo ≤ hi) (h2 : hi ≤ n) (hc : c ≠ lo) : Sl w k (A.map (·.add lo)) (hi - lo) (c - lo) ((ys.drop lo).take (hi - lo)) := by
  have := h.mid lo hi h1 h2
  rwa [if_neg hc] at this
theorem made_zero (k : IntKind) (n : Nat) : (madeCells (Value.int k 0).cells (n * 1)).toList = (List.replicate n (0 : Int)).map (Value.int k) := by
  refine List.ext_getElem (by simp [madeCells]) fun i h1 h2 => ?_
  simp [madeCells, Value.cells, Nat.mod_one]
def lenOf : Value → Nat | .slice _ n _ => n | _ => 0
theorem own_slice {w : World} {B : Nat} {e : TypeId} {k : IntKind} {v : Value} {t : Nat} {xs : List Int} (h : w.ownsRow B e 1 v xs.length (xs.map (Value.int k))) (ht : xs.length = t) : ∃ A c, v = .slice A t c := by
  obtain ⟨_, A, c, rfl, _⟩ := own_form h
  exact ⟨A, c, by rw [ht]⟩
end Wd
end Go.Proofs.YtpappcmgnnmbeaaDoor
namespace Go.Proofs.YtpappcmgnnmbeaaDoor
set_option maxRecDepth 20000
open Go.RowKit
namespace Wd
/-- Block g is just the cells cs, of element type t, and may be written. -/
def Bx (w : World) (g : Nat) (t : TypeId) (cs : Array Value) : Prop := w.heap[g]? = some (.cells cs t (0, 0))
section
variable {w w' : World} {g : Nat} {t : TypeId} {cs : Array Value}
theorem Bx.lt (h : Bx w g t cs) : g < w.heap.size := lt_of_block h
theorem Bx.cell (h : Bx w g t cs) (j : Nat) : w.cell? ⟨g, j, none⟩ = cs[j]? := cell_of_row w g j cs t (0, 0) h
theorem Bx.free (h : Bx w g t cs) (j : Nat) : w.frozen? ⟨g, j, none⟩ = false := frozen_of_row w g j cs t h
theorem Bx.new (w : World) (t : TypeId) (cs : Array Value) : Bx (w.alloc (.cells cs t)) w.heap.size t cs := heap_alloc_new w _
theorem Bx.alloc (h : Bx w g t cs) (o : Obj) : Bx (w.alloc o) g t cs := by
  unfold Bx
  rw [Below.heap_alloc w o g h.lt]
  exact h
theorem Bx.below {B : Nat} (h : Bx w g t cs) (hg : g < B) (hb : Below B w w') : Bx w' g t cs := by
  unfold Bx
  rw [hb.block g hg]
  exact h
theorem Bx.grown {row : Option Nat} (h : Bx w g t cs) (hb : w.grownBy w' row) (hg : some g ≠ row) : Bx w' g t cs := (hb.block g h.lt hg).trans h
/-- A row whose elements are of another type is another block. -/
theorem Bx.apart {base : Nat} {e : TypeId} {size n : Nat} {v : Value} {xs : List Value} (h : Bx w g t cs) (hr : w.ownsRow base e size v n xs) (hne : t ≠ e) : some g ≠ v.ownBlock := by
  rcases hr.2 with ⟨rfl, _⟩ | ⟨g', cap, cur, rfl, _, hg, _⟩
  · simp [Value.ownBlock]
  · intro he
    have : g = g' := by simpa [Value.ownBlock] using he
    subst this
    unfold Bx at h
    rw [h] at hg
    simp only [Option.some.injEq, Obj.cells.injEq] at hg
    exact hne hg.2.1
end

/-- The first k of d, and zeros behind. -/
def fill (d : List Int) (k : Nat) : List Int := d.take k ++ List.replicate (d.length - k) 0
theorem fill_zero (d : List Int) : fill d 0 = List.replicate d.length 0 := by simp [fill]
theorem fill_all (d : List Int) : fill d d.length = d := by simp [fill]
theorem fill_len (d : List Int) (k : Nat) : (fill d k).length = d.length := by simp [fill]; omega
theorem fill_set (d : List Int) (k : Nat) (hk : k < d.length) : (fill d k).set k (d.getD k 0) = fill d (k + 1) := by
  refine List.ext_getElem (by simp [fill_len]) fun i h1 h2 => ?_
  simp only [fill_len, List.length_set] at h1 h2
  rw [List.getElem_set]
  simp only [fill, List.getElem_append, List.length_take, List.getElem_take, List.getElem_replicate]
  by_cases e : k = i
  · subst e
    rw [if_pos rfl, dif_pos (by omega)]
    simp [List.getD, hk]
  · rw [if_neg e]
    by_cases q : i < min k d.length
    · rw [dif_pos q, dif_pos (by omega)]
    · rw [dif_neg q, dif_neg (by omega)]

/-- The cut 's[q:]' of a slice that begins at a known place. -/
theorem Sl.cut_at {w : World} {k : IntKind} {b o n c : Nat} {ys : List Int} (h : Sl w k (some ⟨b, o, none⟩) n c ys) (q : Nat) (hq : q ≤ n) (hc : c ≠ q) : Sl w k (some ⟨b, o + q, none⟩) (n - q) (c - q) (ys.drop q) := by
  have := h.cut q hq
  rw [if_neg hc, Option.map_some, Addr.add_lit] at this
  exact this
end Wd
end Go.Proofs.YtpappcmgnnmbeaaDoor
namespace Go.Proofs.YtpappcmgnnmbeaaDoor
set_option maxRecDepth 20000
open Go.RowKit Go.Maps
namespace Wd
section
variable {w w' : World} {g : Nat} {t : TypeId} {cs : Array Value}
theorem Bx.set (h : Bx w g t cs) (j : Nat) (u : Value) : Bx (w.setCell ⟨g, j, none⟩ u) g t (cs.setIfInBounds j u) := by
  unfold Bx
  rw [heap_setCell_same w g j cs t _ h]
theorem Bx.other (h : Bx w g t cs) {a : Addr} (ha : g ≠ a.block) (u : Value) : Bx (w.setCell a u) g t cs := by
  unfold Bx
  rw [heap_setCell_other w a g u ha]
  exact h
theorem Bx.drew (h : Bx w g t cs) : Bx w.drew g t cs := h
theorem Bx.at_ (h : Bx w g t cs) (e : w'.heap[g]? = w.heap[g]?) : Bx w' g t cs := e.trans h
theorem own_keep {B : Nat} {e : TypeId} {size n : Nat} {v : Value} {xs : List Value} (h : w.ownsRow B e size v n xs) (hk : ∀ x, v.ownBlock = some x → w'.heap[x]? = w.heap[x]?) : w'.ownsRow B e size v n xs := by
  obtain ⟨h1, h2⟩ := h
  refine ⟨h1, ?_⟩
  rcases h2 with h2 | ⟨g, cap, cur, hv, hg, hh, r⟩
  · exact .inl h2
  · exact .inr ⟨g, cap, cur, hv, hg, by rw [hk g (by rw [hv]; rfl)]; exact hh, r⟩
theorem own_lt {B : Nat} {e : TypeId} {size n : Nat} {v : Value} {xs : List Value} (h : w.ownsRow B e size v n xs) {x : Nat} (hx : v.ownBlock = some x) : x < w.heap.size ∧ B ≤ x ∧ ∃ cur, w.heap[x]? = some (.cells cur e (0, 0)) := by
  rcases h.2 with ⟨rfl, _⟩ | ⟨g, cap, cur, rfl, hg, hh, r⟩
  · simp [Value.ownBlock] at hx
  · have : g = x := by simpa [Value.ownBlock] using hx
    subst this
    exact ⟨lt_of_block hh, hg, cur, hh⟩
/-- The cut 'v[:k]' of a row of the call's own. -/
theorem own_head {B : Nat} {e : TypeId} {A : Option Addr} {n c k : Nat} {xs : List Value} (h : w.ownsRow B e 1 (.slice A n c) n xs) (hk : k ≤ n) : w.ownsRow B e 1 (.slice A k c) k (xs.take k) := by
  obtain ⟨h1, h2⟩ := h
  refine ⟨by simp; omega, ?_⟩
  rcases h2 with ⟨h2, h3⟩ | ⟨g, cap, cur, hv, hg, hh, r1, r2, r3, r4⟩
  · subst h3
    obtain rfl : k = 0 := by omega
    exact .inl ⟨h2, rfl⟩
  · simp only [Value.slice.injEq, true_and] at hv
    obtain ⟨rfl, rfl⟩ := hv
    refine .inr ⟨g, _, cur, rfl, hg, hh, by omega, r2, r3, ?_⟩
    rw [← r4, List.take_take]
    congr 1
    omega
theorem map_keep {H : Type} {P : Program} {k : TypeId} {R : Value → Option (DataW H × List MemPlace)} {b n : Nat} {D : DataW H} (h : w.ownsMap P k R b n D) (e : w'.heap[b]? = w.heap[b]?) : w'.ownsMap P k R b n D := by
  obtain ⟨es, clock, hb, r⟩ := h
  exact ⟨es, clock, e.trans hb, r⟩
/-- As tight as may be. -/
theorem map_tight {H : Type} {P : Program} {k : TypeId} {R : Value → Option (DataW H × List MemPlace)} {b n : Nat} {D : DataW H} (h : w.ownsMap P k R b n D) : w.ownsMap P k R b (Maps.size D) D := by
  obtain ⟨es, clock, hb, F, hs, rfl⟩ := h
  exact ⟨es, clock, hb, F, by simp [Maps.size, length_sorted], rfl⟩
end

/-- Nothing but the blocks of G has turned, and there may be new ones. -/
structure Mv (G : Nat → Prop) (w w' : World) : Prop where
  os : w'.os = w.os
  tape : w'.tape = w.tape
  output : w'.output = w.output
  size : w.heap.size ≤ w'.heap.size
  keep : ∀ g, g < w.heap.size → ¬ G g → w'.heap[g]? = w.heap[g]?
/-- G, and what is new. -/
def Gr (G : Nat → Prop) (w w' : World) (g : Nat) : Prop := G g ∨ (w.heap.size ≤ g ∧ g < w'.heap.size)
section
variable {G : Nat → Prop} {w w' w'' : World} {B : Nat}
theorem Mv.refl (G : Nat → Prop) (w : World) : Mv G w w := ⟨rfl, rfl, rfl, Nat.le_refl _, fun _ _ _ => rfl⟩
theorem Mv.mono {G' : Nat → Prop} (h : Mv G w w') (hG : ∀ g, G g → G' g) : Mv G' w w' := ⟨h.os, h.tape, h.output, h.size, fun g hg hn => h.keep g hg (fun k => hn (hG g k))⟩
theorem Mv.trans (h : Mv G w w') (k : Mv (Gr G w w') w' w'') : Mv G w w'' :=
  ⟨k.os.trans h.os, k.tape.trans h.tape, k.output.trans h.output, Nat.le_trans h.size k.size, fun g hg hn =>
    (k.keep g (Nat.lt_of_lt_of_le hg h.size) (fun q => by rcases q with q | q; exact hn q; omega)).trans (h.keep g hg hn)⟩
theorem Mv.then (h : Mv G w w') (k : Mv G w' w'') : Mv G w w'' := h.trans (k.mono fun _ hg => .inl hg)
theorem Gr.trans (h : w.heap.size ≤ w'.heap.size) (k : w'.heap.size ≤ w''.heap.size) (g : Nat) : Gr (Gr G w w') w' w'' g ↔ Gr G w w'' g := by
  unfold Gr
  constructor
  · rintro ((q | q) | q)
    · exact .inl q
    · exact .inr (by omega)
    · exact .inr (by omega)
  · rintro (q | q)
    · exact .inl (.inl q)
    · by_cases e : g < w'.heap.size
      · exact .inl (.inr (by omega))
      · exact .inr (by omega)
theorem Gr.eq (h : w.heap.size ≤ w'.heap.size) (k : w'.heap.size ≤ w''.heap.size) : Gr (Gr G w w') w' w'' = Gr G w w'' := funext fun g => propext (Gr.trans h k g)
theorem Mv.of_below (h : Below w.heap.size w w') : Mv G w w' := ⟨h.os, h.tape, h.output, h.size, fun g hg _ => h.block g hg⟩
theorem Mv.of_grown {row : Option Nat} (h : w.grownBy w' row) (hr : ∀ g, row = some g → G g) : Mv G w w' :=
  ⟨h.os, h.tape, h.output, h.size, fun g hg hn => h.block g hg (fun e => hn (hr g e.symm))⟩
theorem Mv.below (h : Mv G w w') (hG : ∀ g, G g → B ≤ g) (hB : B ≤ w.heap.size) : Below B w w' :=
  ⟨h.os, h.tape, h.output, h.size, fun g hg => h.keep g (by omega) (fun k => by have := hG g k; omega)⟩
theorem Mv.alloc (h : Mv G w w') (o : Obj) : Mv G w (w'.alloc o) := h.then (Mv.of_grown (World.grownBy_alloc w' o none) (by simp))
theorem Mv.set (h : Mv G w w') {a : Addr} (ha : G a.block) (u : Value) : Mv G w (w'.setCell a u) :=
  h.then ⟨rfl, rfl, rfl, by simp [World.setCell], fun g hg hn => Below.heap_setCell _ _ _ _ (fun e => hn (e ▸ ha))⟩
theorem Mv.drew (h : Mv G w w') : Mv G w w'.drew := ⟨h.os, h.tape, h.output, h.size, h.keep⟩
theorem Gr.ge (hG : ∀ g, G g → B ≤ g) (hB : B ≤ w.heap.size) : ∀ g, Gr G w w' g → B ≤ g := by
  rintro g (q | q)
  · exact hG g q
  · omega
theorem Gr.lt (hG : ∀ g, G g → g < w.heap.size) (h : w.heap.size ≤ w'.heap.size) : ∀ g, Gr G w w' g → g < w'.heap.size := by
  rintro g (q | q)
  · exact Nat.lt_of_lt_of_le (hG g q) h
  · exact q.2
end
end Wd
end Go.Proofs.YtpappcmgnnmbeaaDoor
