/- Words on memory that the walks of this seat use: a slice that holds a list of numbers; what append leaves. Over any program. The order of values in plain words: of two one comes first, or they are the same. No program, no memory. -/
import Derived.WalkKit
import Derived.Deep.Draws
import Derived.WideAt
import Derived.WideShapes
import Derived.Laws.Strings
namespace Go.Proofs.YtpappcmgnnmbeaaDoor
set_option maxRecDepth 20000
open Go.RowKit
namespace Wd

/-- From address A on, in blocks below number B, stand the numbers xs, of kind k. -/
def Rd (w : World) (B : Nat) (k : IntKind) (A : Option Addr) (xs : List Int) : Prop :=
  ∀ j, j < xs.length → ∃ b o, A = some ⟨b, o, none⟩ ∧ b < B ∧ w.cell? ⟨b, o + j, none⟩ = some (.int k (xs.getD j 0))

section
variable {w w' : World} {B B' : Nat} {k : IntKind} {A : Option Addr} {xs ys : List Int}

theorem Rd.nil : Rd w B k A [] := fun _ h => absurd h (by simp)
theorem Rd.below (h : Rd w B k A xs) (hb : Below B w w') : Rd w' B k A xs := fun j hj => by
  obtain ⟨b, o, e, hlt, hc⟩ := h j hj
  exact ⟨b, o, e, hlt, (hb.cell (p := ⟨b, o + j, none⟩) hlt).trans hc⟩
theorem Rd.up (h : Rd w B k A xs) (hB : B ≤ B') : Rd w B' k A xs := fun j hj => by
  obtain ⟨b, o, e, hlt, hc⟩ := h j hj
  exact ⟨b, o, e, by omega, hc⟩
theorem Rd.some_ (h : Rd w B k A xs) (hn : 0 < xs.length) : ∃ b o, A = some ⟨b, o, none⟩ ∧ b < B ∧ ∀ j, j < xs.length → w.cell? ⟨b, o + j, none⟩ = some (.int k (xs.getD j 0)) := by
  obtain ⟨b, o, rfl, hlt, _⟩ := h 0 hn
  refine ⟨b, o, rfl, hlt, fun j hj => ?_⟩
  obtain ⟨b', o', e, _, hc⟩ := h j hj
  simp only [Option.some.injEq, Addr.mk.injEq, and_true] at e
  obtain ⟨rfl, rfl⟩ := e
  exact hc
theorem Rd.mk {b o : Nat} (hlt : b < B) (h : ∀ j, j < xs.length → w.cell? ⟨b, o + j, none⟩ = some (.int k (xs.getD j 0))) : Rd w B k (some ⟨b, o, none⟩) xs :=
  fun j hj => ⟨b, o, rfl, hlt, h j hj⟩
theorem Rd.take (h : Rd w B k A xs) (n : Nat) : Rd w B k A (xs.take n) := fun j hj => by
  simp only [List.length_take] at hj
  obtain ⟨b, o, e, hlt, hc⟩ := h j (by omega)
  refine ⟨b, o, e, hlt, ?_⟩
  rw [hc]
  simp [List.getD, show j < n by omega]
/-- The cut 's[n:]', as the model spells its address. -/
theorem Rd.cut (h : Rd w B k A xs) {n c : Nat} (hn : n ≤ xs.length) (hc : xs.length ≤ c) : Rd w B k (if c = n then A else A.map (·.add n)) (xs.drop n) := fun j hj => by
  simp only [List.length_drop] at hj
  obtain ⟨b, o, rfl, hlt, hcell⟩ := h (n + j) (by omega)
  rw [if_neg (by omega)]
  refine ⟨b, o + n, by simp [Addr.add_lit], hlt, ?_⟩
  rw [Nat.add_assoc, hcell]
  simp [List.getD, List.getElem?_drop]
theorem Rd.none_ (h : Rd w B k none xs) : xs = [] := by
  cases xs with
  | nil => rfl
  | cons x r =>
    obtain ⟨b, o, e, _⟩ := h 0 (by simp)
    cases e
/-- What an append or a make has left: the value's shape, and what it holds. -/
theorem own_form {base : Nat} {e : TypeId} {v : Value} {n : Nat} (h : w.ownsRow base e 1 v n (xs.map (Value.int k))) :
    n = xs.length ∧ ∃ A c, v = .slice A xs.length c ∧ xs.length ≤ c ∧ c ≤ maxLen ∧ (A = none → c = 0) ∧ Rd w w.heap.size k A xs := by
  have hl : n = xs.length := by have := h.1; simpa using this.symm
  subst hl
  refine ⟨rfl, ?_⟩
  rcases h.2 with ⟨rfl, h0⟩ | ⟨g, cap, cur, rfl, hb, hg, h1, h2, h3, h4⟩
  · have : xs = [] := List.eq_nil_of_length_eq_zero h0
    subst this
    exact ⟨none, 0, rfl, by simp, by simp [maxLen], fun _ => rfl, Rd.nil⟩
  · refine ⟨_, _, rfl, h1, h2, by simp, Rd.mk (Array.getElem?_eq_some_iff.1 hg).1 fun j hj => ?_⟩
    have := h.cellAt (g := g) (cap := cap) j (by omega)
    rw [Nat.zero_add, this]
    simp [List.getD, List.getElem?_eq_getElem hj]
/-- A block that was just made of numbers. -/
theorem Rd.lit (w : World) (k : IntKind) (xs : List Int) (e : TypeId) (cs : Array Value) (h : cs = (xs.map (Value.int k)).toArray) :
    Rd (w.alloc (.cells cs e)) (w.heap.size + 1) k (some ⟨w.heap.size, 0, none⟩) xs := by
  subst h
  refine Rd.mk (by omega) fun j hj => ?_
  rw [cell_of_row _ _ _ _ _ _ (heap_alloc_new w _)]
  simp [List.getD, List.getElem?_eq_getElem hj]
end

/-- The slice value of address A, length n and capacity c holds the numbers ys. -/
structure Sl (w : World) (k : IntKind) (A : Option Addr) (n c : Nat) (ys : List Int) : Prop where
  len : n = ys.length
  cap : n ≤ c
  max : c ≤ maxLen
  nil : A = none → c = 0
  rd : Rd w w.heap.size k A ys
/-- Each number of the list fits its kind. -/
def Fits (k : IntKind) (xs : List Int) : Prop := ∀ x, x ∈ xs → (Lit.int k x).wf = true
theorem Sl.below {w w' : World} {k : IntKind} {A : Option Addr} {n c : Nat} {ys : List Int} (h : Sl w k A n c ys) (hb : Below w.heap.size w w') : Sl w' k A n c ys :=
  ⟨h.len, h.cap, h.max, h.nil, (h.rd.below hb).up hb.size⟩
theorem Sl.none_ (w : World) (k : IntKind) : Sl w k none 0 0 [] := ⟨rfl, Nat.le_refl _, Nat.zero_le _, fun _ => rfl, Rd.nil⟩
/-- A call of w ended in w' with a slice of the numbers ys, and nothing that was there has turned. -/
def Out (w : World) (k : IntKind) (ys : List Int) (e : Ending) (w' : World) : Prop :=
  ∃ A n c, e = .returned (.slice A n c) ∧ Sl w' k A n c ys ∧ Below w.heap.size w w'
theorem Sl.of_own {w : World} {B : Nat} {e : TypeId} {k : IntKind} {v : Value} {n : Nat} {ys : List Int} (h : w.ownsRow B e 1 v n (ys.map (Value.int k))) : ∃ A n c, v = .slice A n c ∧ Sl w k A n c ys := by
  obtain ⟨_, A, c, rfl, h1, h2, h3, h4⟩ := own_form h
  exact ⟨A, _, c, rfl, ⟨rfl, h1, h2, h3, h4⟩⟩
theorem Out.of_own {w w' : World} {B : Nat} {e : TypeId} {k : IntKind} {v : Value} {n : Nat} {ys : List Int} (h : w'.ownsRow B e 1 v n (ys.map (Value.int k))) (hb : Below w.heap.size w w') : Out w k ys (.returned v) w' := by
  obtain ⟨A, n, c, rfl, h1⟩ := Sl.of_own h
  exact ⟨A, n, c, rfl, h1, hb⟩
theorem Sl.lit (w : World) (k : IntKind) (xs : List Int) (e : TypeId) (cs : Array Value) (n : Nat) (h : cs = (xs.map (Value.int k)).toArray) (hn : n = xs.length) (hm : n ≤ maxLen) :
    Sl (w.alloc (.cells cs e)) k (some ⟨w.heap.size, 0, none⟩) n n xs := ⟨hn, Nat.le_refl _, hm, by simp, (Rd.lit w k xs e cs h).up (by simp)⟩
theorem Out.lit (w : World) (k : IntKind) (xs : List Int) (e : TypeId) (cs : Array Value) (n : Nat) (h : cs = (xs.map (Value.int k)).toArray) (hn : n = xs.length) (hm : n ≤ maxLen) :
    Out w k xs (.returned (.slice (some ⟨w.heap.size, 0, none⟩) n n)) (w.alloc (.cells cs e)) := ⟨_, _, _, rfl, Sl.lit w k xs e cs n h hn hm, (Below.refl _ _).alloc (Nat.le_refl _) _⟩
/-- What is owned stays owned behind a call that turns nothing that was there. -/
theorem own_below {w w' : World} {B : Nat} {e : TypeId} {size n : Nat} {v : Value} {xs : List Value} (h : w.ownsRow B e size v n xs) (hb : Below w.heap.size w w') : w'.ownsRow B e size v n xs :=
  h.kept ⟨hb.os, hb.tape, hb.output, hb.size, fun k hk _ => hb.block k hk⟩ (row := none) (by cases v.ownBlock <;> simp)
/-- The cut 's[k:]'. -/
theorem Sl.cut {w : World} {k : IntKind} {A : Option Addr} {n c : Nat} {ys : List Int} (h : Sl w k A n c ys) (q : Nat) (hq : q ≤ n) : Sl w k (if c = q then A else A.map (·.add q)) (n - q) (c - q) (ys.drop q) := by
  obtain ⟨rfl, h1, h2, h3, h4⟩ := h
  refine ⟨by simp, by omega, by omega, ?_, h4.cut hq h1⟩
  intro e
  by_cases hc : c = q
  · omega
  · rw [if_neg hc] at e
    have : A = none := by cases A <;> simp_all
    have := h3 this
    omega
/-- The cut 's[:k]'. -/
theorem Sl.head {w : World} {k : IntKind} {A : Option Addr} {n c : Nat} {ys : List Int} (h : Sl w k A n c ys) (q : Nat) (hq : q ≤ n) : Sl w k A q c (ys.take q) := by
  obtain ⟨rfl, h1, h2, h3, h4⟩ := h
  exact ⟨by simp [hq], by omega, h2, h3, h4.take q⟩
theorem yes {b : Bool} (h : b = true) : Ending.returned (.bool b) = .returned (.bool true) := by rw [h]
theorem of_drew {B : Nat} {w w' : World} (h : Below B w.drew w') : Below B w w' := ⟨h.os, h.tape, h.output, h.size, h.block⟩
theorem below_drewN {B : Nat} {a w : World} (h : Below B a w) (n : Nat) : Below B a (w.drewN n) := ⟨h.os, h.tape, h.output, h.size, h.block⟩

section
variable {P : Program} (w : World)

theorem run_app_own (B : Nat) (t ty e : TypeId) (i : TypeInfo) (z : Value) (k : IntKind) (bytes : Nat) (ht : P.underlying t = some (.slice e)) (hi : P.info? e = some i) (hz : i.zero = some z)
    (hsize : i.size = 1) (hby : i.bytes = bytes) (hzs : z.cells.size = 1)
    (v : Value) (xs : List Int) (hown : w.ownsRow B e 1 v xs.length (xs.map (Value.int k)))
    (B' : Nat) (A : Option Addr) (m c : Nat) (ys : List Int) (hm : m = ys.length) (hA : A = none → c = 0) (hr : Rd w B' k A ys)
    (hbytes : (xs.length + ys.length) * bytes ≤ 140737488355328) (h63 : xs.length + ys.length ≤ maxLen) (hB : B ≤ w.heap.size) :
    ∃ v' w', (Builtin.append_ #[t, t] ty #[v, .slice A m c]).run P w = .ok v' w' ∧ w'.ownsRow B e 1 v' (xs ++ ys).length ((xs ++ ys).map (Value.int k)) ∧ w.grownBy w' v.ownBlock := by
  subst hm
  rcases A with _ | ad
  · obtain rfl := hA rfl
    obtain rfl := hr.none_
    refine ⟨v, w, ?_, by simpa using hown, World.grownBy.refl w _⟩
    exact run_append_owned_none (P := P) w B t ty e i 1 ht hi v xs.length _ hown
  · have hcells : ∀ j u, (ys.map (Value.int k))[j]? = some u → w.cell? (ad.add j) = some u := by
      intro j u hu
      have hj : j < ys.length := by simpa using (List.getElem?_eq_some_iff.1 hu).1
      obtain ⟨b, o, e1, _, hc⟩ := hr j hj
      cases e1
      rw [Addr.add_lit, hc, ← hu]
      simp [List.getD, List.getElem?_eq_getElem hj]
    obtain ⟨v', w', hrun, h2, h3, _⟩ := run_append_own (P := P) w B t ty e i z 1 bytes ht hi hz hsize hby hzs (by omega) v xs.length _ hown ad ys.length c (ys.map (Value.int k)) (by simp) hcells (ints_oneCell _ _) h63 hbytes hB
    exact ⟨v', w', hrun, by simpa using h2, h3⟩

/-- append onto a row of the call's own (or nil), whatever the source: 'append(out, xs...)'. -/
theorem wpList_app {ops : Array Oper} {rest : List Oper} {o : Oper} {a : Act} {Q : Exit → Act → World → Prop} (hgd : o.guard = none) (s x : Operand) (t : TypeId)
    (ho : o.op = .call { callee := .builtin .append, args := #[s, x], argTypes := #[t, t] })
    (B : Nat) (e : TypeId) (i : TypeInfo) (z : Value) (k : IntKind) (bytes : Nat) (ht : P.underlying t = some (.slice e)) (hi : P.info? e = some i) (hz : i.zero = some z)
    (hsize : i.size = 1) (hby : i.bytes = bytes) (hzs : z.cells.size = 1)
    (v : Value) (xs : List Int) (hs : a.eval s = v) (hown : w.ownsRow B e 1 v xs.length (xs.map (Value.int k)))
    (B' : Nat) (A : Option Addr) (m c : Nat) (ys : List Int) (hx : a.eval x = .slice A m c) (hm : m = ys.length) (hA : A = none → c = 0) (hr : Rd w B' k A ys)
    (hbytes : (xs.length + ys.length) * bytes ≤ 140737488355328) (h63 : xs.length + ys.length ≤ maxLen) (hB : B ≤ w.heap.size)
    (h : ∀ v' w', w'.ownsRow B e 1 v' (xs ++ ys).length ((xs ++ ys).map (Value.int k)) → w.grownBy w' v.ownBlock → wpList P ops Q rest (a.put o.dst v') w') : wpList P ops Q (o :: rest) a w := by
  refine wpList_plain hgd fun K hK => ?_
  obtain ⟨v', w', hrun, h2, h3⟩ := run_app_own (P := P) w B t o.type e i z k bytes ht hi hz hsize hby hzs v xs hown B' A m c ys hm hA hr hbytes h63 hB
  unfold Oper.wp
  simp [execOp, ho, resolve, invoke, builtin, hs, hx, hrun, Result.andThen]
  exact hK _ _ (h v' w' h2 h3)

/-- append onto a slice without spare room, of whomever: a new row is made. -/
theorem wpList_app_full {ops : Array Oper} {rest : List Oper} {o : Oper} {a : Act} {Q : Exit → Act → World → Prop} (hgd : o.guard = none) (s x : Operand) (t : TypeId)
    (ho : o.op = .call { callee := .builtin .append, args := #[s, x], argTypes := #[t, t] })
    (e : TypeId) (i : TypeInfo) (z : Value) (k : IntKind) (bytes : Nat) (ht : P.underlying t = some (.slice e)) (hi : P.info? e = some i) (hz : i.zero = some z)
    (hsize : i.size = 1) (hby : i.bytes = bytes) (hzs : z.cells.size = 1)
    (B0 : Nat) (A0 : Option Addr) (n0 c0 : Nat) (xs : List Int) (hs : a.eval s = .slice A0 n0 c0) (hn : n0 = xs.length) (hc : c0 = xs.length) (h0 : Rd w B0 k A0 xs)
    (B' : Nat) (A : Option Addr) (m c : Nat) (ys : List Int) (hx : a.eval x = .slice A m c) (hm : m = ys.length) (hr : Rd w B' k A ys) (hpos : 0 < ys.length)
    (hbytes : (xs.length + ys.length) * bytes ≤ 140737488355328) (h63 : xs.length + ys.length ≤ maxLen)
    (h : ∀ v' w', w'.ownsRow w.heap.size e 1 v' (xs ++ ys).length ((xs ++ ys).map (Value.int k)) → w.grownBy w' none → wpList P ops Q rest (a.put o.dst v') w') : wpList P ops Q (o :: rest) a w := by
  subst hm hn hc
  obtain ⟨b, oo, rfl, _, hcell⟩ := hr.some_ hpos
  refine wpList_append_grows w hgd s x t ho e i z 1 bytes ht hi hz hsize hby hzs (by omega) A0 xs.length xs.length (xs.map (Value.int k)) hs ?_ (by simp) ?_ ⟨b, oo, none⟩ ys.length c (ys.map (Value.int k)) hx (by simp) ?_ (ints_oneCell _ _) (by omega) h63 hbytes
    (fun v' w' h2 h3 => h v' w' (by simpa using h2) h3)
  · intro hA
    subst hA
    rw [h0.none_]; simp
  · intro ad had j u hu
    have hj : j < xs.length := by simpa using (List.getElem?_eq_some_iff.1 hu).1
    obtain ⟨b, o, e1, _, hc⟩ := h0 j hj
    rw [e1] at had
    cases had
    rw [Addr.add_lit, hc, ← hu]
    simp [List.getD, List.getElem?_eq_getElem hj]
  · intro j u hu
    have hj : j < ys.length := by simpa using (List.getElem?_eq_some_iff.1 hu).1
    rw [Addr.add_lit, hcell j hj, ← hu]
    simp [List.getD, List.getElem?_eq_getElem hj]

/-- What an append may be put behind so that the outcome is the call's own: a row of its own, or a slice of whomever without spare room. -/
def Dst (w : World) (B : Nat) (e : TypeId) (k : IntKind) (v : Value) (xs : List Int) : Prop :=
  w.ownsRow B e 1 v xs.length (xs.map (Value.int k)) ∨ ∃ A, v = .slice A xs.length xs.length ∧ Rd w B k A xs

theorem own_down {w : World} {B B' : Nat} {e : TypeId} {size n : Nat} {v : Value} {xs : List Value} (h : w.ownsRow B e size v n xs) (hB : B' ≤ B) : w.ownsRow B' e size v n xs := by
  obtain ⟨h1, h2⟩ := h
  refine ⟨h1, ?_⟩
  rcases h2 with h2 | ⟨g, cap, cur, hv, hg, r⟩
  · exact .inl h2
  · exact .inr ⟨g, cap, cur, hv, by omega, r⟩
theorem Dst.alloc {w : World} {B : Nat} {e : TypeId} {k : IntKind} {v : Value} {xs : List Int} (h : Dst w B e k v xs) (hB : B ≤ w.heap.size) (o : Obj) : Dst (w.alloc o) B e k v xs := by
  rcases h with h | ⟨A, hv, hr⟩
  · exact .inl (h.alloc o)
  · exact .inr ⟨A, hv, hr.below ((Below.refl B w).alloc hB o)⟩

/-- One element, or more, behind either of these. -/
theorem wpList_app_dst {ops : Array Oper} {rest : List Oper} {o : Oper} {a : Act} {Q : Exit → Act → World → Prop} (hgd : o.guard = none) (s x : Operand) (t : TypeId)
    (ho : o.op = .call { callee := .builtin .append, args := #[s, x], argTypes := #[t, t] })
    (B : Nat) (e : TypeId) (i : TypeInfo) (z : Value) (k : IntKind) (bytes : Nat) (ht : P.underlying t = some (.slice e)) (hi : P.info? e = some i) (hz : i.zero = some z)
    (hsize : i.size = 1) (hby : i.bytes = bytes) (hzs : z.cells.size = 1)
    (v : Value) (xs : List Int) (hs : a.eval s = v) (hd : Dst w B e k v xs)
    (B' : Nat) (A : Option Addr) (m c : Nat) (ys : List Int) (hx : a.eval x = .slice A m c) (hm : m = ys.length) (hr : Rd w B' k A ys) (hpos : 0 < ys.length)
    (hbytes : (xs.length + ys.length) * bytes ≤ 140737488355328) (h63 : xs.length + ys.length ≤ maxLen) (hB : B ≤ w.heap.size)
    (h : ∀ v' w', w'.ownsRow B e 1 v' (xs ++ ys).length ((xs ++ ys).map (Value.int k)) → Below B w w' → wpList P ops Q rest (a.put o.dst v') w') : wpList P ops Q (o :: rest) a w := by
  rcases hd with hd | ⟨A0, rfl, h0⟩
  · refine wpList_app w hgd s x t ho B e i z k bytes ht hi hz hsize hby hzs v xs hs hd B' A m c ys hx hm ?_ hr hbytes h63 hB (fun v' w' h2 h3 => h v' w' h2 ((Below.refl _ _).grown h3 hB fun g hg => (hd.lt g hg).1))
    intro hA
    subst hA
    rw [hr.none_] at hpos
    simp at hpos
  · exact wpList_app_full w hgd s x t ho e i z k bytes ht hi hz hsize hby hzs B A0 _ _ xs hs rfl rfl h0 B' A m c ys hx hm hr hpos hbytes h63 (fun v' w' h2 h3 => h v' w' (own_down h2 hB) ((Below.refl _ _).grown h3 hB (by simp)))
end
end Wd
end Go.Proofs.YtpappcmgnnmbeaaDoor
namespace Go.Proofs.YtpappcmgnnmbeaaDoor
set_option maxRecDepth 20000
namespace Va
/-- A value as the document speaks of it. -/
structure Vl where
  kind : Int
  i : Int
  s : ByteArray
  b : Bool
/-- May this value be? -/
def May (v : Vl) : Prop :=
  (v.kind = 0 ∧ v.i = 0 ∧ v.s = ⟨#[]⟩ ∧ v.b = false) ∨ (v.kind = 1 ∧ v.s = ⟨#[]⟩ ∧ v.b = false) ∨ (v.kind = 2 ∧ v.i = 0 ∧ v.s.size ≤ 64 ∧ v.b = false) ∨ (v.kind = 3 ∧ v.i = 0 ∧ v.s = ⟨#[]⟩)
def null : Vl := ⟨0, 0, ⟨#[]⟩, false⟩
theorem may_null : May null := .inl ⟨rfl, rfl, rfl, rfl⟩

theorem less_before : ∀ x y : List UInt8, Op.bytesLess x y = bytesBefore x y
  | [], [] => by simp [Op.bytesLess, bytesBefore]
  | [], _ :: _ => by simp [Op.bytesLess, bytesBefore]
  | _ :: _, [] => by simp [Op.bytesLess, bytesBefore]
  | a :: x, b :: y => by
    rw [Op.bytesLess, bytesBefore, less_before x y]
/-- Three ways of 'comes first', of a test that is an order. -/
def way (x y : Bool) : Int := if x then -1 else if y then 1 else 0
theorem way_neg {x y : Bool} (h : x = true → y = false) : way x y = -way y x := by
  cases x <;> cases y <;> simp_all [way]
theorem way_zero {x y : Bool} : way x y = 0 ↔ x = false ∧ y = false := by
  cases x <;> cases y <;> simp [way]
theorem way_le {x y : Bool} (h : x = true → y = false) : way x y ≤ 0 ↔ y = false := by
  cases x <;> cases y <;> simp_all [way]

def bef (s t : ByteArray) : Bool := Op.bytesLess s.toList t.toList
theorem bef_eq (s t : ByteArray) : bef s t = bytesBefore s.data.toList t.data.toList := by
  unfold bef
  rw [ByteArray.toList_eq, ByteArray.toList_eq, less_before]
theorem bef_irrefl (s : ByteArray) : bef s s = false := by rw [bef_eq]; exact WideAt.bytes_irrefl _
theorem bef_trans {s t u : ByteArray} (h : bef s t = true) (k : bef t u = true) : bef s u = true := by
  rw [bef_eq] at *
  exact WideShapes.bytes_trans _ _ _ h k
theorem bef_total {s t : ByteArray} (h : s ≠ t) : bef s t = true ∨ bef t s = true := by
  rw [bef_eq, bef_eq]
  exact WideAt.bytes_total _ _ fun e => h (WideShapes.bytes_inj e)
theorem bef_asym {s t : ByteArray} (h : bef s t = true) : bef t s = false := by
  cases k : bef t s
  · rfl
  · have := bef_trans h k
    rw [bef_irrefl] at this
    cases this
def cmpI (x y : Int) : Int := way (decide (x < y)) (decide (y < x))
def cmpS (s t : ByteArray) : Int := way (bef s t) (bef t s)
def cmpB (x y : Bool) : Int := way (!x && y) (x && !y)
/-- Which of two comes first. -/
def ord (a b : Vl) : Int :=
  if a.kind < b.kind then -1 else if b.kind < a.kind then 1
  else if a.kind = 1 then cmpI a.i b.i else if a.kind = 2 then cmpS a.s b.s else if a.kind = 3 then cmpB a.b b.b else 0

theorem cmpI_neg (x y : Int) : cmpI x y = -cmpI y x := way_neg fun h => decide_eq_false (by have := of_decide_eq_true h; omega)
theorem cmpS_neg (s t : ByteArray) : cmpS s t = -cmpS t s := way_neg bef_asym
theorem cmpB_neg (x y : Bool) : cmpB x y = -cmpB y x := by cases x <;> cases y <;> rfl
theorem cmpI_zero {x y : Int} : cmpI x y = 0 ↔ x = y := by
  unfold cmpI
  rw [way_zero, decide_eq_false_iff_not, decide_eq_false_iff_not]
  omega
theorem cmpS_zero {s t : ByteArray} : cmpS s t = 0 ↔ s = t := by
  unfold cmpS
  rw [way_zero]
  refine ⟨fun ⟨h1, h2⟩ => ?_, fun h => by rw [h]; exact ⟨bef_irrefl t, bef_irrefl t⟩⟩
  by_cases e : s = t
  · exact e
  · rcases bef_total e with q | q
    · rw [q] at h1; cases h1
    · rw [q] at h2; cases h2
theorem cmpB_zero {x y : Bool} : cmpB x y = 0 ↔ x = y := by cases x <;> cases y <;> simp [cmpB, way]
theorem cmpI_le {x y : Int} : cmpI x y ≤ 0 ↔ x ≤ y := by
  unfold cmpI
  rw [way_le (fun h => decide_eq_false (by have := of_decide_eq_true h; omega)), decide_eq_false_iff_not]
  omega
theorem cmpS_le {s t : ByteArray} : cmpS s t ≤ 0 ↔ bef t s = false := way_le bef_asym
theorem cmpS_trans {s t u : ByteArray} (h : cmpS s t ≤ 0) (k : cmpS t u ≤ 0) : cmpS s u ≤ 0 := by
  rw [cmpS_le] at *
  by_cases e : t = u
  · subst e; exact h
  by_cases e' : s = t
  · subst e'; exact k
  cases q : bef u s
  · rfl
  · have h1 : bef s t = true := by
      rcases bef_total e' with p | p
      · exact p
      · rw [p] at h; cases h
    have h2 : bef t u = true := by
      rcases bef_total e with p | p
      · exact p
      · rw [p] at k; cases k
    have := bef_trans (bef_trans h1 h2) q
    rw [bef_irrefl] at this
    cases this
theorem cmpB_trans {x y z : Bool} (h : cmpB x y ≤ 0) (k : cmpB y z ≤ 0) : cmpB x z ≤ 0 := by
  revert h k
  cases x <;> cases y <;> cases z <;> simp [cmpB, way]

theorem ord_neg (a b : Vl) : ord a b = -ord b a := by
  unfold ord
  by_cases h1 : a.kind < b.kind
  · rw [if_pos h1, if_neg (by omega), if_pos h1]
  by_cases h2 : b.kind < a.kind
  · rw [if_neg h1, if_pos h2, if_pos h2]; rfl
  have e : a.kind = b.kind := by omega
  rw [if_neg h1, if_neg h2, if_neg h2, if_neg h1, e]
  split
  · exact cmpI_neg _ _
  split
  · exact cmpS_neg _ _
  split
  · exact cmpB_neg _ _
  · rfl
theorem ord_self (a : Vl) : ord a a = 0 := by
  have := ord_neg a a
  omega
/-- Behind the order of kinds. -/
theorem ord_same {a b : Vl} (h : a.kind = b.kind) : ord a b = if a.kind = 1 then cmpI a.i b.i else if a.kind = 2 then cmpS a.s b.s else if a.kind = 3 then cmpB a.b b.b else 0 := by
  unfold ord
  rw [if_neg (by omega), if_neg (by omega)]
theorem way_bd {x y : Bool} : -1 ≤ way x y ∧ way x y ≤ 1 := by cases x <;> cases y <;> simp [way]
theorem ord_bd (a b : Vl) : -1 ≤ ord a b ∧ ord a b ≤ 1 := by
  unfold ord
  split
  · omega
  split
  · omega
  split
  · exact way_bd
  split
  · exact way_bd
  split
  · exact way_bd
  · omega
theorem ord_kind {a b : Vl} (h : ord a b ≤ 0) : a.kind ≤ b.kind := by
  by_cases q : b.kind < a.kind
  · unfold ord at h
    rw [if_neg (by omega), if_pos q] at h
    omega
  · omega
theorem ord_zero_kind {a b : Vl} (h : ord a b = 0) : a.kind = b.kind := by
  have h1 := ord_kind (a := a) (b := b) (by omega)
  have h2 := ord_kind (a := b) (b := a) (by have := ord_neg a b; omega)
  omega
theorem ord_zero {a b : Vl} (ha : May a) (hb : May b) : ord a b = 0 ↔ a = b := by
  refine ⟨fun h => ?_, fun h => by rw [h]; exact ord_self b⟩
  have hk := ord_zero_kind h
  rw [ord_same hk] at h
  obtain ⟨k1, i1, s1, b1⟩ := a
  obtain ⟨k2, i2, s2, b2⟩ := b
  unfold May at ha hb
  simp only [] at ha hb hk h
  subst hk
  rcases ha with ⟨rfl, rfl, rfl, rfl⟩ | ⟨rfl, rfl, rfl⟩ | ⟨rfl, rfl, _, rfl⟩ | ⟨rfl, rfl, rfl⟩ <;> rcases hb with ⟨q, rfl, rfl, rfl⟩ | ⟨q, rfl, rfl⟩ | ⟨q, rfl, _, rfl⟩ | ⟨q, rfl, rfl⟩ <;> first | omega | skip
  · rfl
  · rw [if_pos rfl, cmpI_zero] at h
    rw [h]
  · rw [if_neg (by omega), if_pos rfl, cmpS_zero] at h
    rw [h]
  · rw [if_neg (by omega), if_neg (by omega), if_pos rfl, cmpB_zero] at h
    rw [h]
theorem ord_le_trans {a b c : Vl} (h : ord a b ≤ 0) (k : ord b c ≤ 0) : ord a c ≤ 0 := by
  have h1 := ord_kind h
  have h2 := ord_kind k
  by_cases q : a.kind < c.kind
  · unfold ord
    rw [if_pos q]
    omega
  · have e1 : a.kind = b.kind := by omega
    have e2 : b.kind = c.kind := by omega
    rw [ord_same e1] at h
    rw [ord_same e2, ← e1] at k
    rw [ord_same (e1.trans e2)]
    split
    · rename_i p
      rw [if_pos p, cmpI_le] at h k
      rw [cmpI_le]
      omega
    rename_i p
    rw [if_neg p] at h k
    split
    · rename_i p
      rw [if_pos p] at h k
      exact cmpS_trans h k
    rename_i p
    rw [if_neg p] at h k
    split
    · rename_i p
      rw [if_pos p] at h k
      exact cmpB_trans h k
    · omega
/-- What the law of the order asks of three. -/
theorem ord_three {a b c : Vl} (ha : May a) (hb : May b) (hc : May c) (h : ord a b ≤ 0) (k : ord b c ≤ 0) : ord a c ≤ 0 ∧ (ord a c = 0 ↔ ord a b = 0 ∧ ord b c = 0) := by
  refine ⟨ord_le_trans h k, fun e => ?_, fun ⟨e1, e2⟩ => ?_⟩
  · have hac := (ord_zero ha hc).1 e
    subst hac
    have := ord_neg a b
    exact ⟨by omega, by omega⟩
  · rw [(ord_zero ha hb).1 e1]
    exact e2
theorem null_first {a : Vl} (ha : May a) : ord null a ≤ 0 := by
  rcases ha with ⟨h, _⟩ | ⟨h, _⟩ | ⟨h, _⟩ | ⟨h, _⟩
  · rw [ord_same (by rw [h]; rfl)]
    simp [null]
  all_goals
    unfold ord
    rw [if_pos (show null.kind < a.kind from (show (0 : Int) < a.kind by omega))]
    omega
end Va
end Go.Proofs.YtpappcmgnnmbeaaDoor
