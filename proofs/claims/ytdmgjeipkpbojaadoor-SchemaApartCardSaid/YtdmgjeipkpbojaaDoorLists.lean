/- Words on memory, over any program: a slice of slices of bytes; a row of the call's own whose elements are slices that it owns; append of such as a step of a region. -/
import Derived.WalkKit
import Derived.RangeFuncBox
import Derived.Test.YtdmgjeipkpbojaaDoorBox
namespace Go.Proofs.YtdmgjeipkpbojaaDoor
set_option maxRecDepth 20000
open Go.RowKit
namespace Wd

/-- The slice value of address A, length n and capacity c holds slices of the bytes ys. -/
structure Ss (w : World) (A : Option Addr) (n c : Nat) (ys : List (List Int)) : Prop where
  len : n = ys.length
  cap : n ≤ c
  max : c ≤ maxLen
  nil : A = none → c = 0
  at_ : ∀ j, j < ys.length → ∃ b o A' n' c', A = some ⟨b, o, none⟩ ∧ b < w.heap.size ∧ w.cell? ⟨b, o + j, none⟩ = some (.slice A' n' c') ∧ Sl w .u8 A' n' c' (ys.getD j [])
theorem Ss.below {w w' : World} {A : Option Addr} {n c : Nat} {ys : List (List Int)} (h : Ss w A n c ys) (hb : Below w.heap.size w w') : Ss w' A n c ys :=
  ⟨h.len, h.cap, h.max, h.nil, fun j hj => by
    obtain ⟨b, o, A', n', c', e, hlt, hc, hs⟩ := h.at_ j hj
    have := hb.size
    exact ⟨b, o, A', n', c', e, by omega, (hb.cell (p := ⟨b, o + j, none⟩) hlt).trans hc, hs.below hb⟩⟩
theorem Ss.none_ (w : World) : Ss w none 0 0 [] := ⟨rfl, Nat.le_refl _, Nat.zero_le _, fun _ => rfl, fun _ h => by simp at h⟩
theorem Ss.head {w : World} {A : Option Addr} {n c : Nat} {ys : List (List Int)} (h : Ss w A n c ys) (q : Nat) (hq : q ≤ n) : Ss w A q c (ys.take q) := by
  obtain ⟨h0, h1, h2, h3, h4⟩ := h
  refine ⟨by rw [List.length_take]; omega, by omega, h2, h3, fun j hj => ?_⟩
  rw [List.length_take] at hj
  obtain ⟨b, o, A', n', c', e, hlt, hc, hs⟩ := h4 j (by omega)
  refine ⟨b, o, A', n', c', e, hlt, hc, ?_⟩
  rwa [show (ys.take q).getD j [] = ys.getD j [] by simp [List.getD, show j < q by omega]]
/-- A call of w ended in w' with a slice of slices and a number, and nothing that was there has turned. -/
def OutSs (w : World) (ys : List (List Int)) (k : Int) (e : Ending) (w' : World) : Prop :=
  ∃ A n c, e = .returned (.tuple #[.slice A n c, .int .i64 k]) ∧ Ss w' A n c ys ∧ Below w.heap.size w w'

/-- The values vs are slices that hold the bytes ys, each in a row of its own of type e. -/
def Hs (w : World) (e : TypeId) (vs : List Value) (ys : List (List Int)) : Prop :=
  vs.length = ys.length ∧ ∀ j, j < ys.length → w.ownsRow 0 e 1 (vs.getD j undef) (ys.getD j []).length ((ys.getD j []).map (Value.int .u8))
theorem Hs.nil (w : World) (e : TypeId) : Hs w e [] [] := ⟨rfl, fun _ h => by simp at h⟩
theorem Hs.below {w w' : World} {e : TypeId} {vs : List Value} {ys : List (List Int)} (h : Hs w e vs ys) (hb : Below w.heap.size w w') : Hs w' e vs ys := ⟨h.1, fun j hj => own_below (h.2 j hj) hb⟩
theorem Hs.snoc {w : World} {e : TypeId} {vs : List Value} {ys : List (List Int)} {v : Value} {y : List Int} (h : Hs w e vs ys) (hv : w.ownsRow 0 e 1 v y.length (y.map (Value.int .u8))) : Hs w e (vs ++ [v]) (ys ++ [y]) := by
  refine ⟨by simp [h.1], fun j hj => ?_⟩
  simp only [List.length_append, List.length_cons, List.length_nil] at hj
  by_cases q : j < ys.length
  · have e1 : (vs ++ [v]).getD j undef = vs.getD j undef := by simp only [List.getD]; rw [List.getElem?_append_left (by rw [h.1]; exact q)]
    have e2 : (ys ++ [y]).getD j [] = ys.getD j [] := by simp only [List.getD]; rw [List.getElem?_append_left q]
    rw [e1, e2]
    exact h.2 j q
  · obtain rfl : j = ys.length := by omega
    have e1 : (vs ++ [v]).getD ys.length undef = v := by rw [← h.1]; simp [List.getD]
    have e2 : (ys ++ [y]).getD ys.length [] = y := by simp [List.getD]
    rw [e1, e2]
    exact hv
/-- What a row of another type does in growing leaves them. -/
theorem Hs.grown {w w' : World} {e e' : TypeId} {vs : List Value} {ys : List (List Int)} {base n size : Nat} {v : Value} {xs : List Value} (h : Hs w e vs ys) (hr : w.ownsRow base e' size v n xs) (hne : e ≠ e') (hg : w.grownBy w' v.ownBlock) : Hs w' e vs ys :=
  ⟨h.1, fun j hj => (h.2 j hj).kept hg (by
    rcases (h.2 j hj).2 with ⟨q, _⟩ | ⟨g, cap, cur, q, _, hgb, _⟩
    · left; rw [q]; rfl
    · right
      rw [q]
      intro e1
      rcases hr.2 with ⟨rfl, _⟩ | ⟨g', cap', cur', rfl, _, hgb', _⟩
      · simp [Value.ownBlock] at e1
      · obtain rfl : g = g' := by simpa [Value.ownBlock] using e1
        rw [hgb] at hgb'
        simp only [Option.some.injEq, Obj.cells.injEq] at hgb'
        exact hne hgb'.2.1)⟩
theorem Hs.set {w : World} {e t : TypeId} {vs : List Value} {ys : List (List Int)} {B : Nat} {u u' : Value} (h : Hs w e vs ys) (hb : Boxed w B t u) (hne : t ≠ e) : Hs (w.setCell ⟨B, 0, none⟩ u') e vs ys :=
  ⟨h.1, fun j hj => (h.2 j hj).kept (grownBy_setCell' w B u') (.inr (hb.not_row hne (h.2 j hj)).symm)⟩
/-- What a slice owns it owns behind the turn of a block that is no cells. -/
theorem own_others {X Y : World} {base : Nat} {e : TypeId} {size n : Nat} {v : Value} {xs : List Value} {row : Option Nat} (hr : X.ownsRow base e size v n xs) (hg : X.grownBy Y row) (hrow : ∀ r, row = some r → ∃ o : Obj, X.heap[r]? = some o ∧ o.isCells = false) : Y.ownsRow base e size v n xs := by
  refine hr.kept hg ?_
  rcases hr.2 with ⟨rfl, _⟩ | ⟨g, cap, cur, rfl, _, hgb, _⟩
  · exact .inl rfl
  · refine .inr fun e' => ?_
    obtain ⟨o, ho, hc⟩ := hrow g (by simpa [Value.ownBlock] using e'.symm)
    rw [hgb] at ho; cases ho; cases hc
theorem Hs.others {X Y : World} {e : TypeId} {vs : List Value} {ys : List (List Int)} {row : Option Nat} (h : Hs X e vs ys) (hg : X.grownBy Y row) (hrow : ∀ r, row = some r → ∃ o : Obj, X.heap[r]? = some o ∧ o.isCells = false) : Hs Y e vs ys :=
  ⟨h.1, fun j hj => own_others (h.2 j hj) hg hrow⟩
/-- A row of such slices, as a slice of slices. -/
theorem Ss.of_own {w : World} {base n : Nat} {e e' : TypeId} {v : Value} {vs : List Value} {ys : List (List Int)} (h : w.ownsRow base e' 1 v n vs) (hs : Hs w e vs ys) : ∃ A n c, v = .slice A n c ∧ Ss w A n c ys := by
  have hn : n = ys.length := by have := h.1; rw [hs.1] at this; omega
  subst hn
  rcases h.2 with ⟨rfl, h0⟩ | ⟨g, cap, cur, rfl, hb, hg, h1, h2, h3, h4⟩
  · obtain rfl := List.eq_nil_of_length_eq_zero h0
    exact ⟨none, 0, 0, rfl, Ss.none_ _⟩
  · refine ⟨_, _, _, rfl, ⟨rfl, h1, h2, by simp, fun j hj => ?_⟩⟩
    obtain ⟨A', n', c', e1, hS⟩ := Sl.of_own (hs.2 j hj)
    refine ⟨g, 0, A', n', c', rfl, (Array.getElem?_eq_some_iff.1 hg).1, ?_, hS⟩
    have := h.cellAt (g := g) (cap := cap) j (by omega)
    rw [Nat.zero_add, this, ← e1]
    simp [List.getD, List.getElem?_eq_getElem (show j < vs.length by rw [hs.1]; exact hj)]

section
variable {P : Program} (w : World)
/-- append of one value onto a row of the call's own, as one step of a region that draws. -/
theorem step_app1 {ops : Array Oper} {o : Oper} {a : Act} {K : Act → World → Prop} {Q : Exit → Act → World → Prop} {E : Prop} (hgd : o.guard = none) (s x : Operand) (t : TypeId)
    (ho : o.op = .call { callee := .builtin .append, args := #[s, x], argTypes := #[t, t] })
    (B : Nat) (e : TypeId) (i : TypeInfo) (z : Value) (bytes : Nat) (ht : P.underlying t = some (.slice e)) (hi : P.info? e = some i) (hz : i.zero = some z)
    (hsize : i.size = 1) (hby : i.bytes = bytes) (hzs : z.cells.size = 1)
    (v : Value) (k : Nat) (xs : List Value) (hs : a.eval s = v) (hown : w.ownsRow B e 1 v k xs)
    (ad : Addr) (u : Value) (hx : a.eval x = .slice (some ad) 1 1) (hc : w.cell? ad = some u) (had : ad.add 0 = ad) (h1 : u.oneCell' = true)
    (h63 : k + 1 ≤ maxLen) (hbytes : (k + 1) * bytes ≤ 140737488355328) (hB : B ≤ w.heap.size)
    (h : ∀ v' w', w'.ownsRow B e 1 v' (k + 1) (xs ++ [u]) → w.grownBy w' v.ownBlock → K (a.put o.dst v') w') : if Region.wanted o (yielded ops a.tmps) = true then Oper.wp P o a w K Q else E := by
  rw [if_pos (by simp [Region.wanted, hgd])]
  obtain ⟨v', w', hrun, h2, h3, _⟩ := run_append_own (P := P) w B t o.type e i z 1 bytes ht hi hz hsize hby hzs (by decide) v k xs hown ad 1 1 [u] (by simp) (fun j q hj => by
    have hj1 : j < 1 := by simpa using (List.getElem?_eq_some_iff.1 hj).1
    obtain rfl : j = 0 := by omega
    simp only [List.getElem?_cons_zero, Option.some.injEq] at hj
    rw [had, ← hj]; exact hc) (by simpa using h1) h63 hbytes hB
  unfold Oper.wp
  simp [execOp, ho, resolve, invoke, builtin, hs, hx, hrun, Result.andThen]
  exact h v' w' h2 h3
/-- append of one value onto a row of the call's own. -/
theorem wpList_app1v {ops : Array Oper} {rest : List Oper} {o : Oper} {a : Act} {Q : Exit → Act → World → Prop} (hgd : o.guard = none) (s x : Operand) (t : TypeId)
    (ho : o.op = .call { callee := .builtin .append, args := #[s, x], argTypes := #[t, t] })
    (B : Nat) (e : TypeId) (i : TypeInfo) (z : Value) (bytes : Nat) (ht : P.underlying t = some (.slice e)) (hi : P.info? e = some i) (hz : i.zero = some z)
    (hsize : i.size = 1) (hby : i.bytes = bytes) (hzs : z.cells.size = 1)
    (v : Value) (k : Nat) (xs : List Value) (hs : a.eval s = v) (hown : w.ownsRow B e 1 v k xs)
    (ad : Addr) (u : Value) (hx : a.eval x = .slice (some ad) 1 1) (hc : w.cell? ad = some u) (had : ad.add 0 = ad) (h1 : u.oneCell' = true)
    (h63 : k + 1 ≤ maxLen) (hbytes : (k + 1) * bytes ≤ 140737488355328) (hB : B ≤ w.heap.size)
    (h : ∀ v' w', w'.ownsRow B e 1 v' (k + 1) (xs ++ [u]) → w.grownBy w' v.ownBlock → wpList P ops Q rest (a.put o.dst v') w') : wpList P ops Q (o :: rest) a w := by
  refine wpList_plain hgd fun K hK => ?_
  obtain ⟨v', w', hrun, h2, h3, _⟩ := run_append_own (P := P) w B t o.type e i z 1 bytes ht hi hz hsize hby hzs (by decide) v k xs hown ad 1 1 [u] (by simp) (fun j q hj => by
    have hj1 : j < 1 := by simpa using (List.getElem?_eq_some_iff.1 hj).1
    obtain rfl : j = 0 := by omega
    simp only [List.getElem?_cons_zero, Option.some.injEq] at hj
    rw [had, ← hj]; exact hc) (by simpa using h1) h63 hbytes hB
  unfold Oper.wp
  simp [execOp, ho, resolve, invoke, builtin, hs, hx, hrun, Result.andThen]
  exact hK _ _ (h v' w' h2 h3)
/-- append of many values, from whatever slice, onto a row of the call's own. -/
theorem wpList_appV {ops : Array Oper} {rest : List Oper} {o : Oper} {a : Act} {Q : Exit → Act → World → Prop} (hgd : o.guard = none) (s x : Operand) (t : TypeId)
    (ho : o.op = .call { callee := .builtin .append, args := #[s, x], argTypes := #[t, t] })
    (B : Nat) (e : TypeId) (i : TypeInfo) (z : Value) (bytes : Nat) (ht : P.underlying t = some (.slice e)) (hi : P.info? e = some i) (hz : i.zero = some z)
    (hsize : i.size = 1) (hby : i.bytes = bytes) (hzs : z.cells.size = 1)
    (v : Value) (k : Nat) (xs : List Value) (hs : a.eval s = v) (hown : w.ownsRow B e 1 v k xs)
    (A : Option Addr) (m c : Nat) (us : List Value) (hx : a.eval x = .slice A m c) (hm : m = us.length) (hA : A = none → us = [] ∧ c = 0) (hc : ∀ ad, A = some ad → ∀ j u, us[j]? = some u → w.cell? (ad.add j) = some u) (h1 : ∀ u ∈ us, u.oneCell' = true)
    (h63 : k + m ≤ maxLen) (hbytes : (k + m) * bytes ≤ 140737488355328) (hB : B ≤ w.heap.size)
    (h : ∀ v' w', w'.ownsRow B e 1 v' (k + m) (xs ++ us) → w.grownBy w' v.ownBlock → wpList P ops Q rest (a.put o.dst v') w') : wpList P ops Q (o :: rest) a w := by
  refine wpList_plain hgd fun K hK => ?_
  rcases A with _ | ad
  · obtain ⟨rfl, rfl⟩ := hA rfl
    subst hm
    have hrun := run_append_owned_none (P := P) w B t o.type e i 1 ht hi v k xs hown
    unfold Oper.wp
    simp [execOp, ho, resolve, invoke, builtin, hs, hx, hrun, Result.andThen]
    exact hK _ _ (h v w (by simpa using hown) (World.grownBy.refl w _))
  · obtain ⟨v', w', hrun, h2, h3, _⟩ := run_append_own (P := P) w B t o.type e i z 1 bytes ht hi hz hsize hby hzs (by decide) v k xs hown ad m c us (by omega) (hc ad rfl) h1 h63 hbytes hB
    unfold Oper.wp
    simp [execOp, ho, resolve, invoke, builtin, hs, hx, hrun, Result.andThen]
    exact hK _ _ (h v' w' h2 h3)
/-- append(out, xs...) as one step of a region that draws. -/
theorem step_app {ops : Array Oper} {o : Oper} {a : Act} {K : Act → World → Prop} {Q : Exit → Act → World → Prop} {E : Prop} (hgd : o.guard = none) (s x : Operand) (t : TypeId)
    (ho : o.op = .call { callee := .builtin .append, args := #[s, x], argTypes := #[t, t] })
    (B : Nat) (e : TypeId) (i : TypeInfo) (z : Value) (k : IntKind) (bytes : Nat) (ht : P.underlying t = some (.slice e)) (hi : P.info? e = some i) (hz : i.zero = some z)
    (hsize : i.size = 1) (hby : i.bytes = bytes) (hzs : z.cells.size = 1)
    (v : Value) (xs : List Int) (hs : a.eval s = v) (hown : w.ownsRow B e 1 v xs.length (xs.map (Value.int k)))
    (B' : Nat) (A : Option Addr) (m c : Nat) (ys : List Int) (hx : a.eval x = .slice A m c) (hm : m = ys.length) (hA : A = none → c = 0) (hr : Rd w B' k A ys)
    (hbytes : (xs.length + ys.length) * bytes ≤ 140737488355328) (h63 : xs.length + ys.length ≤ maxLen) (hB : B ≤ w.heap.size)
    (h : ∀ v' w', w'.ownsRow B e 1 v' (xs ++ ys).length ((xs ++ ys).map (Value.int k)) → w.grownBy w' v.ownBlock → K (a.put o.dst v') w') : if Region.wanted o (yielded ops a.tmps) = true then Oper.wp P o a w K Q else E := by
  rw [if_pos (by simp [Region.wanted, hgd])]
  obtain ⟨v', w', hrun, h2, h3⟩ := run_app_own (P := P) w B t o.type e i z k bytes ht hi hz hsize hby hzs v xs hown B' A m c ys hm hA hr hbytes h63 hB
  unfold Oper.wp
  simp [execOp, ho, resolve, invoke, builtin, hs, hx, hrun, Result.andThen]
  exact h v' w' h2 h3
end
end Wd
end Go.Proofs.YtdmgjeipkpbojaaDoor
