/- A map in memory whose elements are read as they lie: what is found, how many there are; what the operations do to it. A range over a map whose elements are read as they lie; a map that is written in two steps. -/
import Derived.Maps.OwnSet
import Derived.Maps.Range
import Derived.Maps.RangeWalk
import Derived.Test.YtpappcmgnnmbeaaDoorPk05
namespace Go.Proofs.YtpappcmgnnmbeaaDoor
set_option maxRecDepth 20000
open Go.RowKit Go.Maps
namespace Up
/-- An element is read as what it is. -/
def raw (v : Value) : Option (DataW Value × List MemPlace) := some (.held v, [])
/-- Keys: how they lie, how they are written, which there may be. -/
structure Ky (α : Type) (k : TypeId) where
  kv : α → Value
  kl : α → Lit
  ok : α → Prop
  law : Keyed Tryd.prog k
  of : ∀ {x}, ok x → keyOf Tryd.prog k (kv x) = some (kl x)
  inj : ∀ {x y}, ok x → ok y → kl x = kl y → x = y
/-- f with y at x. -/
def upd {α β : Type} [DecidableEq α] (f : α → Option β) (x : α) (y : Option β) : α → Option β := fun z => if z = x then y else f z
section
variable {α : Type} {k : TypeId} (K : Ky α k)
/-- Block b is a map of n entries; what is found at x is f x. -/
def Mp (w : World) (b n : Nat) (f : α → Option Value) : Prop :=
  ∃ D : DataW Value, w.ownsMap Tryd.prog k raw b n D ∧ Maps.size D = n ∧ (∀ x, K.ok x → Maps.has D (K.kl x) = (f x).isSome ∧ ∀ z, D.atKey (K.kl x) (.held z) = .held ((f x).getD z)) ∧ (∀ q, Maps.has D q = true → ∃ x, K.ok x ∧ q = K.kl x) ∧ ∀ x, (f x).isSome = true → K.ok x
theorem Ky.lit {x : α} (hx : K.ok x) : WideAt.IsKeyLit (K.kl x) := K.law.key (K.of hx)
variable {K} {w w' : World} {b n : Nat} {f : α → Option Value}
theorem Mp.made (w : World) : Mp K (w.alloc (.map #[] 0)) w.heap.size 0 (fun _ => none) :=
  ⟨.map [], World.ownsMap_made w _ k raw, rfl, fun x _ => ⟨rfl, fun z => rfl⟩, fun q h => absurd h (by simp [Maps.has]), fun x h => absurd h (by simp)⟩
theorem Mp.lt (h : Mp K w b n f) : b < w.heap.size := by
  obtain ⟨D, h1, _⟩ := h
  exact h1.lt
theorem Mp.keep (h : Mp K w b n f) (e : w'.heap[b]? = w.heap[b]?) : Mp K w' b n f := by
  obtain ⟨D, h1, h2⟩ := h
  exact ⟨D, Wd.map_keep h1 e, h2⟩
theorem Mp.below (h : Mp K w b n f) (hb : Below w.heap.size w w') : Mp K w' b n f := h.keep (hb.block b h.lt)
theorem Mp.grown {row : Option Nat} (h : Mp K w b n f) (hg : w.grownBy w' row) (hne : some b ≠ row) : Mp K w' b n f := h.keep (hg.block b h.lt hne)
theorem Mp.ok (h : Mp K w b n f) {x : α} (hx : (f x).isSome = true) : K.ok x := by
  obtain ⟨D, _, _, _, _, h5⟩ := h
  exact h5 x hx
theorem Mp.len {t e : TypeId} (h : Mp K w b n f) (ht : Tryd.prog.underlying t = some (.map k e)) (ty : TypeId) : (Builtin.len_ #[t] ty #[.map (some b)]).run Tryd.prog w = .ok (.int .i64 (n : Int)) w := by
  obtain ⟨D, h1, h2, _⟩ := h
  have := h1.len ht ty
  rwa [h2] at this
theorem raw_inv {v : Value} {y : DataW Value} {ps : List MemPlace} (h : raw v = some (y, ps)) : y = .held v := by
  simp only [raw, Option.some.injEq, Prod.mk.injEq] at h
  exact h.1.symm
/-- m[x]. -/
theorem Mp.look {t e : TypeId} (h : Mp K w b n f) (ht : Tryd.prog.underlying t = some (.map k e)) {z : Value} (hz : (zeroValue e).run Tryd.prog w = .ok z w) {x : α} (hx : K.ok x) :
    (Instr.lookup t (.map (some b)) (K.kv x) false).run Tryd.prog w = .ok ((f x).getD z) w := by
  obtain ⟨D, h1, _, h3, _⟩ := h
  obtain ⟨v, ps, hr, hv⟩ := h1.lookup K.law ht hz (zd := .held z) (zp := []) rfl (K.of hx)
  have := raw_inv hv
  rw [(h3 x hx).2 z] at this
  injection this with e1
  rw [e1]
  exact hr
/-- v, ok := m[x]. -/
theorem Mp.look2 {t e : TypeId} (h : Mp K w b n f) (ht : Tryd.prog.underlying t = some (.map k e)) {z : Value} (hz : (zeroValue e).run Tryd.prog w = .ok z w) {x : α} (hx : K.ok x) :
    (Instr.lookup t (.map (some b)) (K.kv x) true).run Tryd.prog w = .ok (.tuple #[(f x).getD z, .bool (f x).isSome]) w := by
  obtain ⟨D, h1, _, h3, _⟩ := h
  obtain ⟨v, ps, hr, hv⟩ := h1.look_ok K.law ht hz (zd := .held z) (zp := []) rfl (K.of hx)
  have := raw_inv hv
  rw [(h3 x hx).2 z] at this
  injection this with e1
  rw [(h3 x hx).1] at hr
  rw [e1]
  exact hr
/-- m[x] of a map that is nil. -/
theorem look_nil {t e : TypeId} (ht : Tryd.prog.underlying t = some (.map k e)) {z : Value} (hz : (zeroValue e).run Tryd.prog w = .ok z w) {x : α} (hx : K.ok x) :
    (Instr.lookup t (.map none) (K.kv x) false).run Tryd.prog w = .ok z w := by
  have := Maps.look_nil (w := w) false K.law ht hz (K.of hx)
  simpa using this
/-- What is put into a datum. -/
theorem put_reads [DecidableEq α] {D : DataW Value} {n : Nat} (h2 : Maps.size D = n) (h3 : ∀ x, K.ok x → Maps.has D (K.kl x) = (f x).isSome ∧ ∀ z, D.atKey (K.kl x) (.held z) = .held ((f x).getD z)) (h4 : ∀ q, Maps.has D q = true → ∃ x, K.ok x ∧ q = K.kl x)
    (h5 : ∀ x, (f x).isSome = true → K.ok x) (ht : Maps.Tidy D) {x : α} (hx : K.ok x) (v : Value) :
    Maps.size (D.put (K.kl x) (.held v)) = (if (f x).isSome then n else n + 1) ∧ (∀ y, K.ok y → Maps.has (D.put (K.kl x) (.held v)) (K.kl y) = (upd f x (some v) y).isSome ∧ ∀ z, (D.put (K.kl x) (.held v)).atKey (K.kl y) (.held z) = .held ((upd f x (some v) y).getD z)) ∧
      (∀ q, Maps.has (D.put (K.kl x) (.held v)) q = true → ∃ x, K.ok x ∧ q = K.kl x) ∧ ∀ y, (upd f x (some v) y).isSome = true → K.ok y := by
  refine ⟨?_, fun y hy => ?_, fun q hq => ?_, fun y hy => ?_⟩
  · rw [Maps.size_put ht, (h3 x hx).1, h2]
  · by_cases e : y = x
    · subst e
      simp only [upd, if_pos, Option.isSome_some, Option.getD_some]
      exact ⟨Maps.has_put_same ht.isMap (K.lit hx) _, fun z => Maps.atKey_put_same ht.isMap (K.lit hx) _ _⟩
    · have hne : K.kl y ≠ K.kl x := fun q => e (K.inj hy hx q)
      simp only [upd, if_neg e]
      rw [Maps.has_put_other hne]
      exact ⟨(h3 y hy).1, fun z => by rw [Maps.atKey_put_other hne]; exact (h3 y hy).2 z⟩
  · by_cases e : q = K.kl x
    · exact ⟨x, hx, e⟩
    · rw [Maps.has_put_other e] at hq
      exact h4 q hq
  · by_cases e : y = x
    · rw [e]; exact hx
    · simp only [upd, if_neg e] at hy
      exact h5 y hy
/-- m[x] = v. -/
theorem Mp.store [DecidableEq α] {t e : TypeId} (h : Mp K w b n f) (ht : Tryd.prog.underlying t = some (.map k e)) (hn : n < maxLen) {x : α} (hx : K.ok x) (v : Value) :
    ∃ w', (Instr.mapUpdate t (.map (some b)) (K.kv x) v).run Tryd.prog w = .ok () w' ∧ Mp K w' b (if (f x).isSome then n else n + 1) (upd f x (some v)) ∧ w.grownBy w' (some b) := by
  obtain ⟨D, h1, h2, h3, h4, h5⟩ := h
  obtain ⟨w', hr, ho, hm⟩ := h1.update K.law ht hn (K.of hx) (val := v) (d := .held v) (ps := []) rfl
  have hp := put_reads h2 h3 h4 h5 (h1.tidy K.law) hx v
  refine ⟨w', hr, ⟨_, ?_, hp⟩, hm⟩
  have := Wd.map_tight ho
  rwa [hp.1] at this
/-- delete(m, x). -/
theorem Mp.drop [DecidableEq α] {t e : TypeId} (h : Mp K w b n f) (ht : Tryd.prog.underlying t = some (.map k e)) {x : α} (hx : K.ok x) (ty : TypeId) :
    ∃ w', (Builtin.delete_ #[t, k] ty #[.map (some b), K.kv x]).run Tryd.prog w = .ok (.tuple #[]) w' ∧ Mp K w' b (if (f x).isSome then n - 1 else n) (upd f x none) ∧ w.grownBy w' (some b) := by
  obtain ⟨D, h1, h2, h3, h4, h5⟩ := h
  obtain ⟨w', hr, ho, hm⟩ := h1.drop K.law ht (K.of hx) ty
  have hs := Maps.size_del (k := K.kl x) (h1.tidy K.law)
  rw [(h3 x hx).1, h2] at hs
  have hsz : Maps.size (D.del (K.kl x)) = if (f x).isSome then n - 1 else n := by
    revert hs
    cases (f x).isSome <;> simp <;> omega
  refine ⟨w', hr, ⟨_, ?_, hsz, fun y hy => ?_, fun q hq => ?_, fun y hy => ?_⟩, hm.grown⟩
  · have := Wd.map_tight ho
    rwa [hsz] at this
  · by_cases e : y = x
    · subst e
      simp only [upd, if_pos, Option.isSome_none, Option.getD_none]
      exact ⟨Maps.has_del_same, fun z => Maps.atKey_del_same _⟩
    · have hne : K.kl y ≠ K.kl x := fun q => e (K.inj hy hx q)
      simp only [upd, if_neg e]
      rw [Maps.has_del_other hne]
      exact ⟨(h3 y hy).1, fun z => by rw [Maps.atKey_del_other hne]; exact (h3 y hy).2 z⟩
  · by_cases e : q = K.kl x
    · rw [e, Maps.has_del_same] at hq
      cases hq
    · rw [Maps.has_del_other e] at hq
      exact h4 q hq
  · by_cases e : y = x
    · rw [e]; exact hx
    · simp only [upd, if_neg e] at hy
      exact h5 y hy
/-- A datum that is empty has no entry. -/
theorem Mp.none (h : Mp K w b 0 f) (x : α) : f x = none := by
  obtain ⟨D, h1, h2, h3, h4, h5⟩ := h
  rcases hf : f x with _ | v
  · rfl
  · have hx := h5 x (by rw [hf]; rfl)
    have h6 := (h3 x hx).1
    rw [hf] at h6
    obtain ⟨es, rfl, _⟩ := h1.tidy K.law
    rw [Maps.size_eq] at h2
    have : es = [] := List.eq_nil_of_length_eq_zero h2
    subst this
    cases h6
/-- The same, read by another f that agrees where keys may be. -/
theorem Mp.congr (h : Mp K w b n f) {g : α → Option Value} (e : ∀ x, K.ok x → f x = g x) (hg : ∀ x, (g x).isSome = true → K.ok x) : Mp K w b n g := by
  obtain ⟨D, h1, h2, h3, h4, _⟩ := h
  exact ⟨D, h1, h2, fun x hx => by rw [← e x hx]; exact h3 x hx, h4, hg⟩
end
end Up
end Go.Proofs.YtpappcmgnnmbeaaDoor
namespace Go.Proofs.YtpappcmgnnmbeaaDoor
set_option maxRecDepth 20000
open Go.RowKit Go.Maps Go.ChangeMaps
namespace Up
section
variable {α : Type} {k : TypeId} (K : Ky α k)
/-- A range over the map is under way: the keys of 'todo' are to come. -/
def Rg (w : World) (b r n : Nat) (f : α → Option Value) (todo : α → Prop) (cnt : Nat) : Prop :=
  ∃ (D : DataW Value) (left : Lit → Bool), w.ranges Tryd.prog k raw b r n D left cnt ∧ Maps.size D = n ∧ (∀ x, K.ok x → Maps.has D (K.kl x) = (f x).isSome ∧ ∀ z, D.atKey (K.kl x) (.held z) = .held ((f x).getD z)) ∧
    (∀ q, Maps.has D q = true → ∃ x, K.ok x ∧ q = K.kl x) ∧ (∀ x, (f x).isSome = true → K.ok x) ∧ ∀ x, K.ok x → (left (K.kl x) = true ↔ todo x)
variable {K} {w w' : World} {b r n cnt : Nat} {f : α → Option Value} {todo : α → Prop}
theorem Rg.map (h : Rg K w b r n f todo cnt) : Mp K w b n f := by
  obtain ⟨D, left, h1, h2, h3, h4, h5, _⟩ := h
  exact ⟨D, h1.owns, h2, h3, h4, h5⟩
theorem Rg.lt (h : Rg K w b r n f todo cnt) : r < w.heap.size := by
  obtain ⟨D, left, h1, _⟩ := h
  exact h1.lt
theorem Rg.ne (h : Rg K w b r n f todo cnt) : r ≠ b := by
  obtain ⟨D, left, h1, _⟩ := h
  exact h1.ne
theorem Rg.kept {row : Option Nat} (h : Rg K w b r n f todo cnt) (hg : w.grownBy w' row) (hb : some b ≠ row) (hr : some r ≠ row) : Rg K w' b r n f todo cnt := by
  obtain ⟨D, left, h1, h2⟩ := h
  exact ⟨D, left, h1.kept hg hb hr, h2⟩
theorem Rg.left_eq (h : Rg K w b r n f todo cnt) : w.rangeLeft b r = cnt := by
  obtain ⟨D, left, h1, _⟩ := h
  exact h1.left_eq
theorem Rg.congr (h : Rg K w b r n f todo cnt) {t2 : α → Prop} (e : ∀ x, K.ok x → (todo x ↔ t2 x)) : Rg K w b r n f t2 cnt := by
  obtain ⟨D, left, h1, h2, h3, h4, h5, h6⟩ := h
  exact ⟨D, left, h1, h2, h3, h4, h5, fun x hx => (h6 x hx).trans (e x hx)⟩
variable {ops : Array Oper} {rest : List Oper} {o : Oper} {a : Act} {Q : Exit → Act → World → Prop}
/-- 'range m'. -/
theorem wpList_range_map (w : World) (hg : o.guard = none) (m : Operand) (t : TypeId) (hop : o.op = Op.range t m) (e : TypeId) (ht : Tryd.prog.underlying t = some (.map k e)) (b n : Nat) (f : α → Option Value) (hm : a.eval m = .map (some b)) (h : Mp K w b n f)
    (hK : ∀ w', Rg K w' b w.heap.size n f (fun x => (f x).isSome = true) n → w.grownBy w' none → w'.heap.size = w.heap.size + 1 → wpList Tryd.prog ops Q rest (a.put o.dst (.pointer (some ⟨w.heap.size, 0, none⟩))) w') :
    wpList Tryd.prog ops Q (o :: rest) a w := by
  obtain ⟨D, h1, h2, h3, h4, h5⟩ := h
  refine wpList_range_own w hg m t hop k e K.law ht raw b n D hm h1 fun w' hr hg' hs => hK w' ?_ hg' hs
  rw [h2] at hr
  exact ⟨D, _, hr, h2, h3, h4, h5, fun x hx => by rw [(h3 x hx).1]⟩
/-- The step. -/
theorem wpList_next_map (w : World) (hg : o.guard = none) (it : Operand) (hop : o.op = Op.next it false) (b r n : Nat) (f : α → Option Value) (todo : α → Prop) (cnt : Nat) (hit : a.eval it = .pointer (some ⟨r, 0, none⟩)) (h : Rg K w b r n f todo cnt)
    (hDone : (∀ x, K.ok x → ¬ todo x) → wpList Tryd.prog ops Q rest (a.put o.dst (.tuple #[.bool false])) w)
    (hMore : ∀ (x : α) (v : Value) (w' : World) (cnt' : Nat), f x = some v → todo x → Rg K w' b r n f (fun z => todo z ∧ z ≠ x) cnt' → cnt' < cnt → w.grownBy w' (some r) → w'.heap.size = w.heap.size →
      (Instr.entry (.pointer (some ⟨r, 0, none⟩))).run Tryd.prog w' = .ok (.tuple #[K.kv x, v]) w' → wpList Tryd.prog ops Q rest (a.put o.dst (.tuple #[.bool true, K.kv x, v])) w') :
    wpList Tryd.prog ops Q (o :: rest) a w := by
  obtain ⟨D, left, h1, h2, h3, h4, h5, h6⟩ := h
  refine wpList_next_ranges w hg it hop k K.law raw (fun x : Value => x) (fun x : Value => x) (fun key _ _ => ⟨key, rfl⟩) (fun v _ _ => ⟨v, rfl⟩) b r n D left cnt hit h1 (fun _ hl => hDone fun x hx hq => ?_) ?_
  · have := hl (K.kl x)
    rw [(h6 x hx).2 hq] at this
    cases this
  · intro key v kl y w' cnt' hkey hlk hv hat hrg hlt hgr hsz hen
    have hy : y.1 = .held v := by
      obtain ⟨y1, y2⟩ := y
      exact raw_inv hv
    have hhas : Maps.has D kl = true := Maps.has_true_of_atKey hat
    obtain ⟨x, hx, rfl⟩ := h4 kl hhas
    obtain rfl := K.law.inj hkey (K.of hx)
    have hs := (h3 x hx).1
    rw [hhas] at hs
    obtain ⟨v', hv'⟩ := Option.isSome_iff_exists.1 hs.symm
    have h7 := (h3 x hx).2 v
    rw [hat, hy, hv'] at h7
    injection h7 with h7
    obtain rfl : v = v' := h7
    refine hMore x v w' cnt' hv' ((h6 x hx).1 hlk) ⟨D, _, hrg, h2, h3, h4, h5, fun z hz => ?_⟩ hlt hgr hsz hen
    show ((left (K.kl z) && !(K.kl z).sameKey (K.kl x)) = true) ↔ _
    by_cases e : z = x
    · subst e
      rw [WideAt.sameKey_self (K.lit hz)]
      simp
    · rw [Maps.sameKey_ne fun q => e (K.inj hz hx q)]
      simp [h6 z hz, e]
end
/-! A store in two steps: the place of the key first, its element later. -/
section
variable {P : Program} {t k e : TypeId} {R : Value → Option (DataW Value × List MemPlace)} {w : World} {b clock : Nat} {es : Array MapEntry}
theorem born_at {j : Nat} {e0 : MapEntry} (hs : (es.toList.map (·.born)).Nodup) (hj : es.toList[j]? = some e0) : es.findIdx? (fun e => ((e.born : Nat) : Int) == ((e0.born : Nat) : Int)) = some j := by
  obtain ⟨hlt, hj'⟩ := List.getElem?_eq_some_iff.1 hj
  simp only [Array.length_toList] at hlt
  rw [Array.findIdx?_eq_some_iff_getElem]
  refine ⟨hlt, by simp at hj'; simp [hj'], fun i hi hq => ?_⟩
  have hi2 : i < es.size := by omega
  simp at hj' hq
  have h1 := List.pairwise_iff_getElem.1 hs i j (by simpa using hi2) (by simpa using hlt) hi
  simp at h1
  rw [hj'] at h1
  omega
theorem store_is (K : Keyed P k) (ht : P.underlying t = some (.map k e)) (hb : w.heap[b]? = some (.map es clock)) (F : WideElems.Fit P k R es clock) {key : Value} {kl : Lit} (hkey : keyOf P k key = some kl) {e0 : MapEntry} (he : e0 ∈ es.toList) (h0 : e0.key = key) (val : Value) :
    (Instr.entryStore t (.map (some b)) (.int .i64 (e0.born : Int)) val).run P w = (Instr.mapUpdate t (.map (some b)) key val).run P w := by
  rcases K.find w hkey es.toList F.keys with ⟨_, h2⟩ | ⟨j, e1, h1, h2, h3⟩
  · exact absurd h0 (h2 e0 he)
  · obtain rfl : e1 = e0 := by
      have hp := fit_apart K F
      refine entry_eq_of_key ?_ (List.mem_of_getElem? h2) he (h3.trans h0.symm)
      refine (List.pairwise_map.1 hp).imp_of_mem fun {x y} hx hy hne hq => hne ?_
      obtain ⟨yx, hyx⟩ := F.reads x hx
      obtain ⟨yy, hyy⟩ := F.reads y hy
      have k1 := WideElems.rd_key hyx
      have k2 := WideElems.rd_key hyy
      rw [hq, k2] at k1
      injection k1 with k1
      simp only [WideElems.rg, hyx, hyy, Option.getD_some]
      exact k1.symm
    have hj : es[j]? = some e1 := by simpa using h2
    obtain ⟨s1, s2, _⟩ := F.stamped
    have hidx := born_at s2 h2
    have hmod : es.modify j (fun e => { e with val := val }) = es.modify j (fun e' => { e' with key := key, val := val }) := by
      refine Array.ext (by simp) fun i h1 h2 => ?_
      simp only [Array.getElem_modify]
      split
      · rename_i q
        subst q
        obtain ⟨hq, hq'⟩ := Array.getElem?_eq_some_iff.1 hj
        rw [hq', ← h3]
      · rfl
    simp [Instr.entryStore, Instr.mapUpdate, MapKept.run_getObj_map hb, asInt, asIntOf, run_underlying ht, K.check w false hkey, h1, hj, h3, K.stays w hkey, hidx, hmod, Result.andThen]
end
section
variable {α : Type} {k : TypeId} {K : Ky α k} {w : World} {b n : Nat} {f : α → Option Value}
theorem Mp.entry [DecidableEq α] {t e : TypeId} (h : Mp K w b n f) (ht : Tryd.prog.underlying t = some (.map k e)) {z : Value} (hz : ∀ u, (zeroValue e).run Tryd.prog u = .ok z u) (hn : n + 1 < maxLen) {x : α} (hx : K.ok x) :
    ∃ (v0 : Value) (st : Int) (w1 : World), (Instr.mapEntry t (.map (some b)) (K.kv x)).run Tryd.prog w = .ok (.tuple #[v0, .int .i64 st]) w1 ∧ w.grownBy w1 (some b) ∧
      ∀ (w2 : World) (val : Value), w2.heap[b]? = w1.heap[b]? → ∃ w3, (Instr.entryStore t (.map (some b)) (.int .i64 st) val).run Tryd.prog w2 = .ok () w3 ∧ w2.grownBy w3 (some b) ∧ Mp K w3 b (if (f x).isSome then n else n + 1) (upd f x (some val)) := by
  have hkey := K.of hx
  have hM := h
  obtain ⟨D, ⟨es, clock, hb, F, hsz, hD⟩, h2, h3, h4, h5⟩ := h
  rcases K.law.find w hkey es.toList F.keys with ⟨h1, hno⟩ | ⟨j, e0, h1, hj, he0⟩
  · have hfx : f x = Option.none := by
      rcases hf : f x with _ | v
      · rfl
      · have h6 := (h3 x hx).1
        rw [hf, hD, Maps.has_eq] at h6
        simp only [Option.isSome_some, List.any_eq_true] at h6
        obtain ⟨p, hp, hs⟩ := h6
        rw [mem_sorted, List.mem_map] at hp
        obtain ⟨e1, he1, rfl⟩ := hp
        obtain ⟨l1, hl1⟩ := F.keys e1 he1
        have hkl : (WideElems.rg Tryd.prog k raw e1).1 = l1 := by
          obtain ⟨y, hy⟩ := F.reads e1 he1
          simp only [WideElems.rd, hl1, raw] at hy
          simp [WideElems.rg, WideElems.rd, hl1, raw]
        rw [hkl] at hs
        by_cases e : l1 = K.kl x
        · subst e
          exact absurd (K.law.inj hl1 hkey) (hno e1 he1)
        · rw [Maps.sameKey_ne e] at hs
          cases hs
    obtain ⟨w1, hr, hM1, hg1⟩ := hM.store ht (by omega) hx z
    rw [hfx] at hM1
    simp only [Option.isSome_none, Bool.false_eq_true, if_false] at hM1
    have hr2 : (Instr.mapUpdate t (.map (some b)) (K.kv x) z).run Tryd.prog w = .ok () (setBlock w b (.map (es.push ⟨K.kv x, z, clock⟩) (clock + 1))) := by
      simp [Instr.mapUpdate, run_underlying ht, MapKept.run_getObj_map hb, K.law.check w false hkey, h1, MapKept.run_setObj_map _ hb, Result.andThen, setBlock]
    rw [hr2] at hr
    injection hr with _ hw1
    subst hw1
    refine ⟨z, clock, _, ?_, hg1, fun w2 val hw2 => ?_⟩
    · simp [Instr.mapEntry, run_underlying ht, MapKept.run_getObj_map hb, K.law.check w false hkey, h1, hz, MapKept.run_setObj_map _ hb, Result.andThen, setBlock, goInt]
    · have hM2 := hM1.keep hw2
      obtain ⟨w3, hr3, hM3, hg3⟩ := hM2.store ht (by omega) hx val
      have hb2 := hw2.trans (heap_setBlock_same hb _)
      obtain ⟨D2, ⟨es2, clock2, hb2', F2, _⟩, _⟩ := hM2
      rw [hb2] at hb2'
      injection hb2' with hb2'
      injection hb2' with q1 q2
      subst q1 q2
      have := store_is K.law ht hb2 F2 hkey (e0 := ⟨K.kv x, z, clock⟩) (by simp) rfl val
      refine ⟨w3, this.trans hr3, hg3, ?_⟩
      rw [hfx]
      simp only [upd, if_pos, Option.isSome_some] at hM3
      simp only [Option.isSome_none, Bool.false_eq_true, if_false]
      refine hM3.congr (fun y _ => ?_) (fun y hy => ?_)
      · simp only [upd]
        split <;> rfl
      · by_cases e : y = x
        · rw [e]; exact hx
        · simp only [upd, if_neg e] at hy
          exact h5 y hy
  · have hjj : es[j]? = some e0 := by simpa using hj
    have hsame : es.modify j (fun e => { e with key := K.kv x }) = es := by
      refine Array.ext (by simp) fun i h1 h2 => ?_
      simp only [Array.getElem_modify]
      split
      · rename_i q
        subst q
        obtain ⟨hq, hq'⟩ := Array.getElem?_eq_some_iff.1 hjj
        rw [hq', ← he0]
      · rfl
    have hsm : setBlock w b (.map es clock) = w := by
      obtain ⟨hq, hq'⟩ := Array.getElem?_eq_some_iff.1 hb
      have : w.heap.setIfInBounds b (.map es clock) = w.heap := by
        refine Array.ext (by simp) fun i h1 h2 => ?_
        rw [Array.getElem_setIfInBounds]
        split
        · rename_i q
          subst q
          exact hq'.symm
        · rfl
      simp [setBlock, this]
    refine ⟨e0.val, e0.born, w, ?_, ⟨rfl, rfl, rfl, Nat.le_refl _, fun _ _ _ => rfl⟩, fun w2 val hw2 => ?_⟩
    · have : (Instr.mapEntry t (.map (some b)) (K.kv x)).run Tryd.prog w = .ok (.tuple #[e0.val, .int .i64 (e0.born : Int)]) (setBlock w b (.map es clock)) := by
        simp [Instr.mapEntry, run_underlying ht, MapKept.run_getObj_map hb, K.law.check w false hkey, h1, hjj, he0, K.law.stays w hkey, hsame, MapKept.run_setObj_map _ hb, Result.andThen, setBlock, goInt]
      rwa [hsm] at this
    · obtain ⟨w3, hr3, hM3, hg3⟩ := (hM.keep hw2).store ht (by omega) hx val
      have := store_is K.law ht (hw2.trans hb) F hkey (List.mem_of_getElem? hj) he0 val
      exact ⟨w3, this.trans hr3, hg3, hM3⟩
end
end Up
end Go.Proofs.YtpappcmgnnmbeaaDoor
