/- Over any program: an operation of a region that draws its order is taken first; the frame behind it stands written out. Words on memory that the walks of this seat use: a slice that holds a list of numbers; what append leaves. Over any program. Words on memory, over any program: a row of numbers that is known whole, a variable that a function has captured, an answer of a slice and an error's number, a slice cut at both ends, what make leaves. Words on memory, over any program: a block that is known whole; a row that is filled place by place; a cut of a slice that begins at a known place. -/
import Derived.OrdersHeld
import Derived.Deep.RegionHeld3
import Derived.WalkKit
import Derived.Deep.Draws
namespace Go.Proofs.Ytljgalleiemaaaa
set_option maxRecDepth 20000
namespace Rt
theorem take {P : Program} {md : Region.Mode} {ops : Array Oper} {Q : Exit → Act → World → Prop} {S : World → Prop} {i d : Nat} {oi : Oper} {v : Value} {fuel : Nat} {listed : Array Bool} {a : Act} {w : World} (hi : ops[i]? = some oi) (hd : oi.dst = some d)
    (hs : Region.noSelect ops = true) (hf : Region.free md ops listed i = true) (hr : (Region.ready md ops listed).contains i = true)
    (hQ : ∀ c a w, Q (.panic c) (a.put oi.dst v) w → Q (.panic c) a w) (hy : YieldsIf P ops S oi v a) (hS : S w)
    (h : wpAnyH P md ops Q S fuel (listed.setIfInBounds i true) { tmps := a.tmps.setIfInBounds d v, defers := a.defers } w) : wpAnyH P md ops Q S (fuel + 1) listed a w :=
  wpAnyH_take hi hs hf hr hQ hy hS (by rw [hd]; exact h)
end Rt
end Go.Proofs.Ytljgalleiemaaaa
namespace Go.Proofs.Ytljgalleiemaaaa
set_option maxRecDepth 20000
open Go.RowKit
namespace Wd

/-- From address A on, in blocks below number B, stand the numbers xs, of kind k. -/
def Rd (w : World) (B : Nat) (k : IntKind) (A : Option Addr) (xs : List Int) : Prop :=
  ∀ j, j < xs.length → ∃ b o, A = some ⟨b, o, none⟩ ∧ b < B ∧ w.cell? ⟨b, o + j, none⟩ = some (.int k (xs.getD j 0))

section
variable {w w' : World} {B B' : Nat} {k : IntKind} {A : Option Addr} {xs ys : List Int}

theorem Rd.nil : Rd w B k A [] := fun _ h => absurd h (by simp)
theorem Rd.below (h : Rd w B k A xs) (hb : Below B w w') : Rd w' B k A xs := fun j hj => by
  obtain ⟨b, o, e, hlt, hc⟩ := h j hj
  exact ⟨b, o, e, hlt, (hb.cell (p := ⟨b, o + j, none⟩) hlt).trans hc⟩
theorem Rd.up (h : Rd w B k A xs) (hB : B ≤ B') : Rd w B' k A xs := fun j hj => by
  obtain ⟨b, o, e, hlt, hc⟩ := h j hj
  exact ⟨b, o, e, by omega, hc⟩
theorem Rd.some_ (h : Rd w B k A xs) (hn : 0 < xs.length) : ∃ b o, A = some ⟨b, o, none⟩ ∧ b < B ∧ ∀ j, j < xs.length → w.cell? ⟨b, o + j, none⟩ = some (.int k (xs.getD j 0)) := by
  obtain ⟨b, o, rfl, hlt, _⟩ := h 0 hn
  refine ⟨b, o, rfl, hlt, fun j hj => ?_⟩
  obtain ⟨b', o', e, _, hc⟩ := h j hj
  simp only [Option.some.injEq, Addr.mk.injEq, and_true] at e
  obtain ⟨rfl, rfl⟩ := e
  exact hc
theorem Rd.mk {b o : Nat} (hlt : b < B) (h : ∀ j, j < xs.length → w.cell? ⟨b, o + j, none⟩ = some (.int k (xs.getD j 0))) : Rd w B k (some ⟨b, o, none⟩) xs :=
  fun j hj => ⟨b, o, rfl, hlt, h j hj⟩
theorem Rd.take (h : Rd w B k A xs) (n : Nat) : Rd w B k A (xs.take n) := fun j hj => by
  simp only [List.length_take] at hj
  obtain ⟨b, o, e, hlt, hc⟩ := h j (by omega)
  refine ⟨b, o, e, hlt, ?_⟩
  rw [hc]
  simp [List.getD, show j < n by omega]
/-- The cut 's[n:]', as the model spells its address. -/
theorem Rd.cut (h : Rd w B k A xs) {n c : Nat} (hn : n ≤ xs.length) (hc : xs.length ≤ c) : Rd w B k (if c = n then A else A.map (·.add n)) (xs.drop n) := fun j hj => by
  simp only [List.length_drop] at hj
  obtain ⟨b, o, rfl, hlt, hcell⟩ := h (n + j) (by omega)
  rw [if_neg (by omega)]
  refine ⟨b, o + n, by simp [Addr.add_lit], hlt, ?_⟩
  rw [Nat.add_assoc, hcell]
  simp [List.getD, List.getElem?_drop]
theorem Rd.none_ (h : Rd w B k none xs) : xs = [] := by
  cases xs with
  | nil => rfl
  | cons x r =>
    obtain ⟨b, o, e, _⟩ := h 0 (by simp)
    cases e
/-- What an append or a make has left: the value's shape, and what it holds. -/
theorem own_form {base : Nat} {e : TypeId} {v : Value} {n : Nat} (h : w.ownsRow base e 1 v n (xs.map (Value.int k))) :
    n = xs.length ∧ ∃ A c, v = .slice A xs.length c ∧ xs.length ≤ c ∧ c ≤ maxLen ∧ (A = none → c = 0) ∧ Rd w w.heap.size k A xs := by
  have hl : n = xs.length := by have := h.1; simpa using this.symm
  subst hl
  refine ⟨rfl, ?_⟩
  rcases h.2 with ⟨rfl, h0⟩ | ⟨g, cap, cur, rfl, hb, hg, h1, h2, h3, h4⟩
  · have : xs = [] := List.eq_nil_of_length_eq_zero h0
    subst this
    exact ⟨none, 0, rfl, by simp, by simp [maxLen], fun _ => rfl, Rd.nil⟩
  · refine ⟨_, _, rfl, h1, h2, by simp, Rd.mk (Array.getElem?_eq_some_iff.1 hg).1 fun j hj => ?_⟩
    have := h.cellAt (g := g) (cap := cap) j (by omega)
    rw [Nat.zero_add, this]
    simp [List.getD, List.getElem?_eq_getElem hj]
/-- A block that was just made of numbers. -/
theorem Rd.lit (w : World) (k : IntKind) (xs : List Int) (e : TypeId) (cs : Array Value) (h : cs = (xs.map (Value.int k)).toArray) :
    Rd (w.alloc (.cells cs e)) (w.heap.size + 1) k (some ⟨w.heap.size, 0, none⟩) xs := by
  subst h
  refine Rd.mk (by omega) fun j hj => ?_
  rw [cell_of_row _ _ _ _ _ _ (heap_alloc_new w _)]
  simp [List.getD, List.getElem?_eq_getElem hj]
end

/-- The slice value of address A, length n and capacity c holds the numbers ys. -/
structure Sl (w : World) (k : IntKind) (A : Option Addr) (n c : Nat) (ys : List Int) : Prop where
  len : n = ys.length
  cap : n ≤ c
  max : c ≤ maxLen
  nil : A = none → c = 0
  rd : Rd w w.heap.size k A ys
/-- Each number of the list fits its kind. -/
def Fits (k : IntKind) (xs : List Int) : Prop := ∀ x, x ∈ xs → (Lit.int k x).wf = true
theorem Sl.below {w w' : World} {k : IntKind} {A : Option Addr} {n c : Nat} {ys : List Int} (h : Sl w k A n c ys) (hb : Below w.heap.size w w') : Sl w' k A n c ys :=
  ⟨h.len, h.cap, h.max, h.nil, (h.rd.below hb).up hb.size⟩
theorem Sl.none_ (w : World) (k : IntKind) : Sl w k none 0 0 [] := ⟨rfl, Nat.le_refl _, Nat.zero_le _, fun _ => rfl, Rd.nil⟩
/-- A call of w ended in w' with a slice of the numbers ys, and nothing that was there has turned. -/
def Out (w : World) (k : IntKind) (ys : List Int) (e : Ending) (w' : World) : Prop :=
  ∃ A n c, e = .returned (.slice A n c) ∧ Sl w' k A n c ys ∧ Below w.heap.size w w'
theorem Sl.of_own {w : World} {B : Nat} {e : TypeId} {k : IntKind} {v : Value} {n : Nat} {ys : List Int} (h : w.ownsRow B e 1 v n (ys.map (Value.int k))) : ∃ A n c, v = .slice A n c ∧ Sl w k A n c ys := by
  obtain ⟨_, A, c, rfl, h1, h2, h3, h4⟩ := own_form h
  exact ⟨A, _, c, rfl, ⟨rfl, h1, h2, h3, h4⟩⟩
theorem Out.of_own {w w' : World} {B : Nat} {e : TypeId} {k : IntKind} {v : Value} {n : Nat} {ys : List Int} (h : w'.ownsRow B e 1 v n (ys.map (Value.int k))) (hb : Below w.heap.size w w') : Out w k ys (.returned v) w' := by
  obtain ⟨A, n, c, rfl, h1⟩ := Sl.of_own h
  exact ⟨A, n, c, rfl, h1, hb⟩
theorem Sl.lit (w : World) (k : IntKind) (xs : List Int) (e : TypeId) (cs : Array Value) (n : Nat) (h : cs = (xs.map (Value.int k)).toArray) (hn : n = xs.length) (hm : n ≤ maxLen) :
    Sl (w.alloc (.cells cs e)) k (some ⟨w.heap.size, 0, none⟩) n n xs := ⟨hn, Nat.le_refl _, hm, by simp, (Rd.lit w k xs e cs h).up (by simp)⟩
theorem Out.lit (w : World) (k : IntKind) (xs : List Int) (e : TypeId) (cs : Array Value) (n : Nat) (h : cs = (xs.map (Value.int k)).toArray) (hn : n = xs.length) (hm : n ≤ maxLen) :
    Out w k xs (.returned (.slice (some ⟨w.heap.size, 0, none⟩) n n)) (w.alloc (.cells cs e)) := ⟨_, _, _, rfl, Sl.lit w k xs e cs n h hn hm, (Below.refl _ _).alloc (Nat.le_refl _) _⟩
/-- What is owned stays owned behind a call that turns nothing that was there. -/
theorem own_below {w w' : World} {B : Nat} {e : TypeId} {size n : Nat} {v : Value} {xs : List Value} (h : w.ownsRow B e size v n xs) (hb : Below w.heap.size w w') : w'.ownsRow B e size v n xs :=
  h.kept ⟨hb.os, hb.tape, hb.output, hb.size, fun k hk _ => hb.block k hk⟩ (row := none) (by cases v.ownBlock <;> simp)
/-- The cut 's[k:]'. -/
theorem Sl.cut {w : World} {k : IntKind} {A : Option Addr} {n c : Nat} {ys : List Int} (h : Sl w k A n c ys) (q : Nat) (hq : q ≤ n) : Sl w k (if c = q then A else A.map (·.add q)) (n - q) (c - q) (ys.drop q) := by
  obtain ⟨rfl, h1, h2, h3, h4⟩ := h
  refine ⟨by simp, by omega, by omega, ?_, h4.cut hq h1⟩
  intro e
  by_cases hc : c = q
  · omega
  · rw [if_neg hc] at e
    have : A = none := by cases A <;> simp_all
    have := h3 this
    omega
/-- The cut 's[:k]'. -/
theorem Sl.head {w : World} {k : IntKind} {A : Option Addr} {n c : Nat} {ys : List Int} (h : Sl w k A n c ys) (q : Nat) (hq : q ≤ n) : Sl w k A q c (ys.take q) := by
  obtain ⟨rfl, h1, h2, h3, h4⟩ := h
  exact ⟨by simp [hq], by omega, h2, h3, h4.take q⟩
theorem yes {b : Bool} (h : b = true) : Ending.returned (.bool b) = .returned (.bool true) := by rw [h]
theorem of_drew {B : Nat} {w w' : World} (h : Below B w.drew w') : Below B w w' := ⟨h.os, h.tape, h.output, h.size, h.block⟩
theorem below_drewN {B : Nat} {a w : World} (h : Below B a w) (n : Nat) : Below B a (w.drewN n) := ⟨h.os, h.tape, h.output, h.size, h.block⟩

section
variable {P : Program} (w : World)

theorem run_app_own (B : Nat) (t ty e : TypeId) (i : TypeInfo) (z : Value) (k : IntKind) (bytes : Nat) (ht : P.underlying t = some (.slice e)) (hi : P.info? e = some i) (hz : i.zero = some z)
    (hsize : i.size = 1) (hby : i.bytes = bytes) (hzs : z.cells.size = 1)
    (v : Value) (xs : List Int) (hown : w.ownsRow B e 1 v xs.length (xs.map (Value.int k)))
    (B' : Nat) (A : Option Addr) (m c : Nat) (ys : List Int) (hm : m = ys.length) (hA : A = none → c = 0) (hr : Rd w B' k A ys)
    (hbytes : (xs.length + ys.length) * bytes ≤ 140737488355328) (h63 : xs.length + ys.length ≤ maxLen) (hB : B ≤ w.heap.size) :
    ∃ v' w', (Builtin.append_ #[t, t] ty #[v, .slice A m c]).run P w = .ok v' w' ∧ w'.ownsRow B e 1 v' (xs ++ ys).length ((xs ++ ys).map (Value.int k)) ∧ w.grownBy w' v.ownBlock := by
  subst hm
  rcases A with _ | ad
  · obtain rfl := hA rfl
    obtain rfl := hr.none_
    refine ⟨v, w, ?_, by simpa using hown, World.grownBy.refl w _⟩
    exact run_append_owned_none (P := P) w B t ty e i 1 ht hi v xs.length _ hown
  · have hcells : ∀ j u, (ys.map (Value.int k))[j]? = some u → w.cell? (ad.add j) = some u := by
      intro j u hu
      have hj : j < ys.length := by simpa using (List.getElem?_eq_some_iff.1 hu).1
      obtain ⟨b, o, e1, _, hc⟩ := hr j hj
      cases e1
      rw [Addr.add_lit, hc, ← hu]
      simp [List.getD, List.getElem?_eq_getElem hj]
    obtain ⟨v', w', hrun, h2, h3, _⟩ := run_append_own (P := P) w B t ty e i z 1 bytes ht hi hz hsize hby hzs (by omega) v xs.length _ hown ad ys.length c (ys.map (Value.int k)) (by simp) hcells (ints_oneCell _ _) h63 hbytes hB
    exact ⟨v', w', hrun, by simpa using h2, h3⟩

/-- append onto a row of the call's own (or nil), whatever the source: 'append(out, xs...)'. -/
theorem wpList_app {ops : Array Oper} {rest : List Oper} {o : Oper} {a : Act} {Q : Exit → Act → World → Prop} (hgd : o.guard = none) (s x : Operand) (t : TypeId)
    (ho : o.op = .call { callee := .builtin .append, args := #[s, x], argTypes := #[t, t] })
    (B : Nat) (e : TypeId) (i : TypeInfo) (z : Value) (k : IntKind) (bytes : Nat) (ht : P.underlying t = some (.slice e)) (hi : P.info? e = some i) (hz : i.zero = some z)
    (hsize : i.size = 1) (hby : i.bytes = bytes) (hzs : z.cells.size = 1)
    (v : Value) (xs : List Int) (hs : a.eval s = v) (hown : w.ownsRow B e 1 v xs.length (xs.map (Value.int k)))
    (B' : Nat) (A : Option Addr) (m c : Nat) (ys : List Int) (hx : a.eval x = .slice A m c) (hm : m = ys.length) (hA : A = none → c = 0) (hr : Rd w B' k A ys)
    (hbytes : (xs.length + ys.length) * bytes ≤ 140737488355328) (h63 : xs.length + ys.length ≤ maxLen) (hB : B ≤ w.heap.size)
    (h : ∀ v' w', w'.ownsRow B e 1 v' (xs ++ ys).length ((xs ++ ys).map (Value.int k)) → w.grownBy w' v.ownBlock → wpList P ops Q rest (a.put o.dst v') w') : wpList P ops Q (o :: rest) a w := by
  refine wpList_plain hgd fun K hK => ?_
  obtain ⟨v', w', hrun, h2, h3⟩ := run_app_own (P := P) w B t o.type e i z k bytes ht hi hz hsize hby hzs v xs hown B' A m c ys hm hA hr hbytes h63 hB
  unfold Oper.wp
  simp [execOp, ho, resolve, invoke, builtin, hs, hx, hrun, Result.andThen]
  exact hK _ _ (h v' w' h2 h3)

/-- append onto a slice without spare room, of whomever: a new row is made. -/
theorem wpList_app_full {ops : Array Oper} {rest : List Oper} {o : Oper} {a : Act} {Q : Exit → Act → World → Prop} (hgd : o.guard = none) (s x : Operand) (t : TypeId)
    (ho : o.op = .call { callee := .builtin .append, args := #[s, x], argTypes := #[t, t] })
    (e : TypeId) (i : TypeInfo) (z : Value) (k : IntKind) (bytes : Nat) (ht : P.underlying t = some (.slice e)) (hi : P.info? e = some i) (hz : i.zero = some z)
    (hsize : i.size = 1) (hby : i.bytes = bytes) (hzs : z.cells.size = 1)
    (B0 : Nat) (A0 : Option Addr) (n0 c0 : Nat) (xs : List Int) (hs : a.eval s = .slice A0 n0 c0) (hn : n0 = xs.length) (hc : c0 = xs.length) (h0 : Rd w B0 k A0 xs)
    (B' : Nat) (A : Option Addr) (m c : Nat) (ys : List Int) (hx : a.eval x = .slice A m c) (hm : m = ys.length) (hr : Rd w B' k A ys) (hpos : 0 < ys.length)
    (hbytes : (xs.length + ys.length) * bytes ≤ 140737488355328) (h63 : xs.length + ys.length ≤ maxLen)
    (h : ∀ v' w', w'.ownsRow w.heap.size e 1 v' (xs ++ ys).length ((xs ++ ys).map (Value.int k)) → w.grownBy w' none → wpList P ops Q rest (a.put o.dst v') w') : wpList P ops Q (o :: rest) a w := by
  subst hm hn hc
  obtain ⟨b, oo, rfl, _, hcell⟩ := hr.some_ hpos
  refine wpList_append_grows w hgd s x t ho e i z 1 bytes ht hi hz hsize hby hzs (by omega) A0 xs.length xs.length (xs.map (Value.int k)) hs ?_ (by simp) ?_ ⟨b, oo, none⟩ ys.length c (ys.map (Value.int k)) hx (by simp) ?_ (ints_oneCell _ _) (by omega) h63 hbytes
    (fun v' w' h2 h3 => h v' w' (by simpa using h2) h3)
  · intro hA
    subst hA
    rw [h0.none_]; simp
  · intro ad had j u hu
    have hj : j < xs.length := by simpa using (List.getElem?_eq_some_iff.1 hu).1
    obtain ⟨b, o, e1, _, hc⟩ := h0 j hj
    rw [e1] at had
    cases had
    rw [Addr.add_lit, hc, ← hu]
    simp [List.getD, List.getElem?_eq_getElem hj]
  · intro j u hu
    have hj : j < ys.length := by simpa using (List.getElem?_eq_some_iff.1 hu).1
    rw [Addr.add_lit, hcell j hj, ← hu]
    simp [List.getD, List.getElem?_eq_getElem hj]

/-- What an append may be put behind so that the outcome is the call's own: a row of its own, or a slice of whomever without spare room. -/
def Dst (w : World) (B : Nat) (e : TypeId) (k : IntKind) (v : Value) (xs : List Int) : Prop :=
  w.ownsRow B e 1 v xs.length (xs.map (Value.int k)) ∨ ∃ A, v = .slice A xs.length xs.length ∧ Rd w B k A xs

theorem own_down {w : World} {B B' : Nat} {e : TypeId} {size n : Nat} {v : Value} {xs : List Value} (h : w.ownsRow B e size v n xs) (hB : B' ≤ B) : w.ownsRow B' e size v n xs := by
  obtain ⟨h1, h2⟩ := h
  refine ⟨h1, ?_⟩
  rcases h2 with h2 | ⟨g, cap, cur, hv, hg, r⟩
  · exact .inl h2
  · exact .inr ⟨g, cap, cur, hv, by omega, r⟩
theorem Dst.alloc {w : World} {B : Nat} {e : TypeId} {k : IntKind} {v : Value} {xs : List Int} (h : Dst w B e k v xs) (hB : B ≤ w.heap.size) (o : Obj) : Dst (w.alloc o) B e k v xs := by
  rcases h with h | ⟨A, hv, hr⟩
  · exact .inl (h.alloc o)
  · exact .inr ⟨A, hv, hr.below ((Below.refl B w).alloc hB o)⟩

/-- One element, or more, behind either of these. -/
theorem wpList_app_dst {ops : Array Oper} {rest : List Oper} {o : Oper} {a : Act} {Q : Exit → Act → World → Prop} (hgd : o.guard = none) (s x : Operand) (t : TypeId)
    (ho : o.op = .call { callee := .builtin .append, args := #[s, x], argTypes := #[t, t] })
    (B : Nat) (e : TypeId) (i : TypeInfo) (z : Value) (k : IntKind) (bytes : Nat) (ht : P.underlying t = some (.slice e)) (hi : P.info? e = some i) (hz : i.zero = some z)
    (hsize : i.size = 1) (hby : i.bytes = bytes) (hzs : z.cells.size = 1)
    (v : Value) (xs : List Int) (hs : a.eval s = v) (hd : Dst w B e k v xs)
    (B' : Nat) (A : Option Addr) (m c : Nat) (ys : List Int) (hx : a.eval x = .slice A m c) (hm : m = ys.length) (hr : Rd w B' k A ys) (hpos : 0 < ys.length)
    (hbytes : (xs.length + ys.length) * bytes ≤ 140737488355328) (h63 : xs.length + ys.length ≤ maxLen) (hB : B ≤ w.heap.size)
    (h : ∀ v' w', w'.ownsRow B e 1 v' (xs ++ ys).length ((xs ++ ys).map (Value.int k)) → Below B w w' → wpList P ops Q rest (a.put o.dst v') w') : wpList P ops Q (o :: rest) a w := by
  rcases hd with hd | ⟨A0, rfl, h0⟩
  · refine wpList_app w hgd s x t ho B e i z k bytes ht hi hz hsize hby hzs v xs hs hd B' A m c ys hx hm ?_ hr hbytes h63 hB (fun v' w' h2 h3 => h v' w' h2 ((Below.refl _ _).grown h3 hB fun g hg => (hd.lt g hg).1))
    intro hA
    subst hA
    rw [hr.none_] at hpos
    simp at hpos
  · exact wpList_app_full w hgd s x t ho e i z k bytes ht hi hz hsize hby hzs B A0 _ _ xs hs rfl rfl h0 B' A m c ys hx hm hr hpos hbytes h63 (fun v' w' h2 h3 => h v' w' (own_down h2 hB) ((Below.refl _ _).grown h3 hB (by simp)))
end
end Wd
end Go.Proofs.Ytljgalleiemaaaa
namespace Go.Proofs.Ytljgalleiemaaaa
set_option maxRecDepth 20000
open Go.RowKit
namespace Wd
/-- Block g is a row of the numbers ys, of kind k and type e, that may be written. -/
def Row (w : World) (g : Nat) (k : IntKind) (e : TypeId) (ys : List Int) : Prop := w.heap[g]? = some (.cells (ys.map (Value.int k)).toArray e (0, 0))
/-- Block p is a variable of type e that holds v. -/
def Var (w : World) (p : Nat) (e : TypeId) (v : Value) : Prop := w.heap[p]? = some (.cells #[v] e (0, 0))
section
variable {w w' : World} {g p : Nat} {k : IntKind} {e : TypeId} {ys : List Int} {v u : Value}
theorem Row.lt (h : Row w g k e ys) : g < w.heap.size := lt_of_block h
theorem Row.cell (h : Row w g k e ys) (j : Nat) (hj : j < ys.length) : w.cell? ⟨g, j, none⟩ = some (.int k (ys.getD j 0)) := by
  rw [cell_of_row w g j _ e (0, 0) h]
  simp [List.getD, List.getElem?_eq_getElem hj]
theorem Row.free (h : Row w g k e ys) (j : Nat) : w.frozen? ⟨g, j, none⟩ = false := frozen_of_row w g j _ e h
theorem Row.set (h : Row w g k e ys) (j : Nat) (x : Int) : Row (w.setCell ⟨g, j, none⟩ (.int k x)) g k e (ys.set j x) := by
  unfold Row
  rw [heap_setCell_same w g j _ e _ h]
  simp [List.map_set]
theorem Row.other (h : Row w g k e ys) {a : Addr} (ha : g ≠ a.block) : Row (w.setCell a u) g k e ys := by
  unfold Row
  rw [heap_setCell_other w a g u ha]
  exact h
theorem Row.drew (h : Row w g k e ys) : Row w.drew g k e ys := h
theorem Row.alloc (h : Row w g k e ys) (o : Obj) : Row (w.alloc o) g k e ys := by
  unfold Row
  rw [Below.heap_alloc w o g h.lt]
  exact h
theorem Row.below {B : Nat} (h : Row w g k e ys) (hg : g < B) (hb : Below B w w') : Row w' g k e ys := by
  unfold Row
  rw [hb.block g hg]
  exact h
theorem Row.of_own {base n : Nat} (h : w.ownsRow base e 1 (.slice (some ⟨g, 0, none⟩) n n) n (ys.map (Value.int k))) : Row w g k e ys ∧ base ≤ g ∧ n = ys.length := by
  have hl : n = ys.length := by have := h.1; simpa using this.symm
  rcases h.2 with ⟨h', _⟩ | ⟨g', cap', cur, h', hb, hg, _, _, hs, ht⟩
  · simp at h'
  · simp only [Value.slice.injEq, Option.some.injEq, Addr.mk.injEq, and_true, true_and] at h'
    obtain ⟨rfl, rfl⟩ := h'
    refine ⟨?_, hb, hl⟩
    unfold Row
    rw [hg]
    have : cur = (ys.map (Value.int k)).toArray := by
      rw [← ht, List.take_of_length_le (by simp; omega)]
    rw [this]
theorem Row.sl (h : Row w g k e ys) (n : Nat) (hn : n = ys.length) (hm : n ≤ maxLen) : Sl w k (some ⟨g, 0, none⟩) n n ys :=
  ⟨hn, Nat.le_refl _, hm, by simp, Rd.mk h.lt fun j hj => by rw [Nat.zero_add]; exact h.cell j hj⟩
theorem Var.lt (h : Var w p e v) : p < w.heap.size := lt_of_block h
theorem Var.cell (h : Var w p e v) : w.cell? ⟨p, 0, none⟩ = some v := cell_of_one h
theorem Var.free (h : Var w p e v) : w.frozen? ⟨p, 0, none⟩ = false := free_of_one h
theorem Var.set (h : Var w p e v) : Var (w.setCell ⟨p, 0, none⟩ u) p e u := one_setCell h
theorem Var.other (h : Var w p e v) {a : Addr} (ha : p ≠ a.block) : Var (w.setCell a u) p e v := by
  unfold Var
  rw [heap_setCell_other w a p u ha]
  exact h
theorem Var.alloc (h : Var w p e v) (o : Obj) : Var (w.alloc o) p e v := by
  unfold Var
  rw [Below.heap_alloc w o p h.lt]
  exact h
theorem Var.new (w : World) (e : TypeId) (v : Value) : Var (w.alloc (.cells #[v] e)) w.heap.size e v := heap_alloc_new w _
theorem Var.drew (h : Var w p e v) : Var w.drew p e v := h
end
/-- A call of w ended in w' with a slice of the numbers ys and an error's number, and nothing that was there has turned. -/
def Out2 (w : World) (k : IntKind) (ys : List Int) (er : Int) (e : Ending) (w' : World) : Prop :=
  ∃ A n c, e = .returned (.tuple #[.slice A n c, .int .i64 er]) ∧ Sl w' k A n c ys ∧ Below w.heap.size w w'
theorem Out2.err (w w' : World) (k : IntKind) (er : Int) (h : Below w.heap.size w w') : Out2 w k [] er (.returned (.tuple #[.slice none 0 0, .int .i64 er])) w' := ⟨none, 0, 0, rfl, Sl.none_ _ _, h⟩
/-- The cut 's[lo:hi]'. -/
theorem Sl.mid {w : World} {k : IntKind} {A : Option Addr} {n c : Nat} {ys : List Int} (h : Sl w k A n c ys) (lo hi : Nat) (h1 : lo ≤ hi) (h2 : hi ≤ n) : Sl w k (if c = lo then A else A.map (·.add lo)) (hi - lo) (c - lo) ((ys.drop lo).take (hi - lo)) :=
  (h.cut lo (by omega)).head (hi - lo) (by omega)
theorem Sl.mid' {w : World} {k : IntKind} {A : Option Addr} {n c : Nat} {ys : List Int} (h : Sl w k A n c ys) (lo hi : Nat) (h1 : lo ≤ hi) (h2 : hi ≤ n) (hc : c ≠ lo) : Sl w k (A.map (·.add lo)) (hi - lo) (c - lo) ((ys.drop lo).take (hi - lo)) := by
  have := h.mid lo hi h1 h2
  rwa [if_neg hc] at this
theorem made_zero (k : IntKind) (n : Nat) : (madeCells (Value.int k 0).cells (n * 1)).toList = (List.replicate n (0 : Int)).map (Value.int k) := by
  refine List.ext_getElem (by simp [madeCells]) fun i h1 h2 => ?_
  simp [madeCells, Value.cells, Nat.mod_one]
def lenOf : Value → Nat | .slice _ n _ => n | _ => 0
theorem own_slice {w : World} {B : Nat} {e : TypeId} {k : IntKind} {v : Value} {t : Nat} {xs : List Int} (h : w.ownsRow B e 1 v xs.length (xs.map (Value.int k))) (ht : xs.length = t) : ∃ A c, v = .slice A t c := by
  obtain ⟨_, A, c, rfl, _⟩ := own_form h
  exact ⟨A, c, by rw [ht]⟩
end Wd
end Go.Proofs.Ytljgalleiemaaaa
namespace Go.Proofs.Ytljgalleiemaaaa
set_option maxRecDepth 20000
open Go.RowKit
namespace Wd
/-- Block g is just the cells cs, of element type t, and may be written. -/
def Bx (w : World) (g : Nat) (t : TypeId) (cs : Array Value) : Prop := w.heap[g]? = some (.cells cs t (0, 0))
section
variable {w w' : World} {g : Nat} {t : TypeId} {cs : Array Value}
theorem Bx.lt (h : Bx w g t cs) : g < w.heap.size := lt_of_block h
theorem Bx.cell (h : Bx w g t cs) (j : Nat) : w.cell? ⟨g, j, none⟩ = cs[j]? := cell_of_row w g j cs t (0, 0) h
theorem Bx.free (h : Bx w g t cs) (j : Nat) : w.frozen? ⟨g, j, none⟩ = false := frozen_of_row w g j cs t h
theorem Bx.new (w : World) (t : TypeId) (cs : Array Value) : Bx (w.alloc (.cells cs t)) w.heap.size t cs := heap_alloc_new w _
theorem Bx.alloc (h : Bx w g t cs) (o : Obj) : Bx (w.alloc o) g t cs := by
  unfold Bx
  rw [Below.heap_alloc w o g h.lt]
  exact h
theorem Bx.below {B : Nat} (h : Bx w g t cs) (hg : g < B) (hb : Below B w w') : Bx w' g t cs := by
  unfold Bx
  rw [hb.block g hg]
  exact h
theorem Bx.grown {row : Option Nat} (h : Bx w g t cs) (hb : w.grownBy w' row) (hg : some g ≠ row) : Bx w' g t cs := (hb.block g h.lt hg).trans h
/-- A row whose elements are of another type is another block. -/
theorem Bx.apart {base : Nat} {e : TypeId} {size n : Nat} {v : Value} {xs : List Value} (h : Bx w g t cs) (hr : w.ownsRow base e size v n xs) (hne : t ≠ e) : some g ≠ v.ownBlock := by
  rcases hr.2 with ⟨rfl, _⟩ | ⟨g', cap, cur, rfl, _, hg, _⟩
  · simp [Value.ownBlock]
  · intro he
    have : g = g' := by simpa [Value.ownBlock] using he
    subst this
    unfold Bx at h
    rw [h] at hg
    simp only [Option.some.injEq, Obj.cells.injEq] at hg
    exact hne hg.2.1
end

/-- The first k of d, and zeros behind. -/
def fill (d : List Int) (k : Nat) : List Int := d.take k ++ List.replicate (d.length - k) 0
theorem fill_zero (d : List Int) : fill d 0 = List.replicate d.length 0 := by simp [fill]
theorem fill_all (d : List Int) : fill d d.length = d := by simp [fill]
theorem fill_len (d : List Int) (k : Nat) : (fill d k).length = d.length := by simp [fill]; omega
theorem fill_set (d : List Int) (k : Nat) (hk : k < d.length) : (fill d k).set k (d.getD k 0) = fill d (k + 1) := by
  refine List.ext_getElem (by simp [fill_len]) fun i h1 h2 => ?_
  simp only [fill_len, List.length_set] at h1 h2
  rw [List.getElem_set]
  simp only [fill, List.getElem_append, List.length_take, List.getElem_take, List.getElem_replicate]
  by_cases e : k = i
  · subst e
    rw [if_pos rfl, dif_pos (by omega)]
    simp [List.getD, hk]
  · rw [if_neg e]
    by_cases q : i < min k d.length
    · rw [dif_pos q, dif_pos (by omega)]
    · rw [dif_neg q, dif_neg (by omega)]

/-- The cut 's[q:]' of a slice that begins at a known place. -/
theorem Sl.cut_at {w : World} {k : IntKind} {b o n c : Nat} {ys : List Int} (h : Sl w k (some ⟨b, o, none⟩) n c ys) (q : Nat) (hq : q ≤ n) (hc : c ≠ q) : Sl w k (some ⟨b, o + q, none⟩) (n - q) (c - q) (ys.drop q) := by
  have := h.cut q hq
  rw [if_neg hc, Option.map_some, Addr.add_lit] at this
  exact this
end Wd
end Go.Proofs.Ytljgalleiemaaaa
