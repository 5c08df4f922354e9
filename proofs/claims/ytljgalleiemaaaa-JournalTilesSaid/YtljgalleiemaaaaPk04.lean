/- Words on memory: an entry, slices of entries, a row of entries of the call's own that is cut and grows; what a journal tells of a partition, in memory; the blocks of four such. -/
import Derived.WalkKit
import Derived.ArgAppend
import Derived.Laws.IdiomCopy
import Derived.Maps.AppendAt
import Derived.Test.YtljgalleiemaaaaPk01
import Derived.Test.YtljgalleiemaaaaPk02
import Derived.Test.YtljgalleiemaaaaPk03
namespace Go.Proofs.Ytljgalleiemaaaa
set_option maxRecDepth 20000
open Go.RowKit Go.Maps
namespace Jo
/-- The numbers of an entry are the machine's. -/
def Rg (n : Int) : Prop := -9223372036854775808 ≤ n ∧ n ≤ 9223372036854775807
def Wf (x : En) : Prop := Rg x.kind ∧ Rg x.part ∧ Rg x.id ∧ Rg x.st ∧ Rg x.en ∧ Rg x.size ∧ Rg x.sum
theorem May.wf {x : En} (h : May x) : Wf x := by
  obtain ⟨⟨a1, a2, a3, a4⟩, h⟩ := h
  unfold Wf Rg
  rcases h with ⟨h0, h⟩ | ⟨h0, h⟩ | ⟨h0, h⟩ <;> omega
/-- An entry's cells. -/
def ev (x : En) : List Value := [.int .i64 x.kind, .int .i64 x.part, .int .i64 x.id, .int .i64 x.st, .int .i64 x.en, .int .i64 x.size, .int .i64 x.sum]
theorem ev_one (x : En) : ∀ u ∈ ev x, u.oneCell' = true := by
  intro u hu
  simp only [ev, List.mem_cons, List.not_mem_nil, or_false] at hu
  rcases hu with rfl | rfl | rfl | rfl | rfl | rfl | rfl <;> rfl
def flatE (l : List En) : List Value := l.flatMap ev
theorem flatE_nil : flatE [] = [] := rfl
theorem flatE_cons (x : En) (l : List En) : flatE (x :: l) = ev x ++ flatE l := rfl
theorem flatE_app (l m : List En) : flatE (l ++ m) = flatE l ++ flatE m := List.flatMap_append
theorem flatE_one (x : En) : flatE [x] = ev x := by simp [flatE]
theorem flatE_len : ∀ l : List En, (flatE l).length = l.length * 7
  | [] => rfl
  | x :: l => by rw [flatE_cons, List.length_append, flatE_len l, List.length_cons]; simp [ev]; omega
theorem flatE_get : ∀ (l : List En) (j : Nat), j < l.length → ∀ i v, (ev (l.getD j default))[i]? = some v → (flatE l)[j * 7 + i]? = some v
  | [], _, h, _, _, _ => by simp at h
  | x :: l, 0, _, i, v, hv => by
    have hv' : (ev x)[i]? = some v := hv
    rw [flatE_cons, Nat.zero_mul, Nat.zero_add, List.getElem?_append_left (List.getElem?_eq_some_iff.1 hv').1]
    exact hv'
  | x :: l, j + 1, h, i, v, hv => by
    have ih := flatE_get l j (by simpa using h) i v hv
    rw [flatE_cons, List.getElem?_append_right (by simp [ev]; omega)]
    rw [show (j + 1) * 7 + i - (ev x).length = j * 7 + i by simp [ev]; omega]
    exact ih
theorem flatE_cell {l : List En} {j : Nat} {u : Value} (h : (flatE l)[j]? = some u) : j / 7 < l.length ∧ (ev (l.getD (j / 7) default))[j % 7]? = some u := by
  have hj : j < l.length * 7 := by have := (List.getElem?_eq_some_iff.1 h).1; rw [flatE_len] at this; exact this
  have hk : j / 7 < l.length := by omega
  have hi : j % 7 < (ev (l.getD (j / 7) default)).length := by simp [ev]; omega
  have hv : (ev (l.getD (j / 7) default))[j % 7]? = some ((ev (l.getD (j / 7) default))[j % 7]) := List.getElem?_eq_getElem hi
  have := flatE_get l (j / 7) hk (j % 7) _ hv
  rw [show j / 7 * 7 + j % 7 = j by omega, h] at this
  exact ⟨hk, by rw [hv]; exact this.symm⟩
theorem flatE_one' (l : List En) : ∀ u ∈ flatE l, u.oneCell' = true := fun u hu => by
  obtain ⟨o, _, h⟩ := List.mem_flatMap.1 hu
  exact ev_one o u h
end Jo
namespace Wd
open Jo (En ev flatE Wf Rg flatE_len flatE_get flatE_app flatE_one flatE_cell flatE_one')
/-- The slice value of address A, length n and capacity c holds the entries l. -/
structure Es (w : World) (A : Option Addr) (n c : Nat) (l : List En) : Prop where
  len : n = l.length
  cap : n ≤ c
  max : c ≤ maxLen
  nil : A = none → c = 0
  at_ : ∀ j, j < l.length → ∃ b o, A = some ⟨b, o, none⟩ ∧ b < w.heap.size ∧ ∀ i v, (ev (l.getD j default))[i]? = some v → w.cell? ⟨b, o + (j * 7 + i), none⟩ = some v
  wf : ∀ x ∈ l, Wf x
theorem getD_mem {l : List En} {j : Nat} (h : j < l.length) : l.getD j default ∈ l := by
  rw [List.getD_eq_getElem?_getD, List.getElem?_eq_getElem h]
  exact List.getElem_mem h
section
variable {w w' : World} {A : Option Addr} {n c : Nat} {l m : List En} {x : En}
theorem Es.none_ (w : World) : Es w none 0 0 [] := ⟨rfl, Nat.le_refl _, Nat.zero_le _, fun _ => rfl, fun _ h => by simp at h, fun _ h => by simp at h⟩
theorem Es.below (h : Es w A n c l) (hb : Below w.heap.size w w') : Es w' A n c l :=
  ⟨h.len, h.cap, h.max, h.nil, fun j hj => by
    obtain ⟨b, o, e, hlt, hc⟩ := h.at_ j hj
    exact ⟨b, o, e, Nat.lt_of_lt_of_le hlt hb.size, fun i v hv => (hb.cell (p := ⟨b, o + (j * 7 + i), none⟩) hlt).trans (hc i v hv)⟩, h.wf⟩
theorem Es.keep {G : Nat → Prop} (h : Es w A n c l) (mv : Mv G w w') (hn : ∀ b o, A = some ⟨b, o, none⟩ → 0 < l.length → ¬ G b) : Es w' A n c l :=
  ⟨h.len, h.cap, h.max, h.nil, fun j hj => by
    obtain ⟨b, o, e, hlt, hc⟩ := h.at_ j hj
    refine ⟨b, o, e, Nat.lt_of_lt_of_le hlt mv.size, fun i v hv => ?_⟩
    have := hc i v hv
    have hb := mv.keep b hlt (hn b o e (by omega))
    simp only [World.cell?, hb] at this ⊢
    exact this, h.wf⟩
/-- The cells of the j-th. -/
theorem Es.cells (h : Es w A n c l) {j : Nat} (hj : j < l.length) (hx : x = l.getD j default) : ∃ b f, A = some ⟨b, f, none⟩ ∧ b < w.heap.size ∧
    w.cell? ⟨b, f + j * 7, none⟩ = some (.int .i64 x.kind) ∧ w.cell? ⟨b, f + j * 7 + 1, none⟩ = some (.int .i64 x.part) ∧ w.cell? ⟨b, f + j * 7 + 2, none⟩ = some (.int .i64 x.id) ∧ w.cell? ⟨b, f + j * 7 + 3, none⟩ = some (.int .i64 x.st) ∧
    w.cell? ⟨b, f + j * 7 + 4, none⟩ = some (.int .i64 x.en) ∧ w.cell? ⟨b, f + j * 7 + 5, none⟩ = some (.int .i64 x.size) ∧ w.cell? ⟨b, f + j * 7 + 6, none⟩ = some (.int .i64 x.sum) ∧ Wf x := by
  subst hx
  obtain ⟨b, f, e, hlt, hc⟩ := h.at_ j hj
  exact ⟨b, f, e, hlt, hc 0 _ rfl, by rw [Nat.add_assoc]; exact hc 1 _ rfl, by rw [Nat.add_assoc]; exact hc 2 _ rfl, by rw [Nat.add_assoc]; exact hc 3 _ rfl, by rw [Nat.add_assoc]; exact hc 4 _ rfl, by rw [Nat.add_assoc]; exact hc 5 _ rfl, by rw [Nat.add_assoc]; exact hc 6 _ rfl, h.wf _ (getD_mem hj)⟩
theorem Es.flat (h : Es w A n c l) : ∀ ad, A = some ad → ∀ j u, (flatE l)[j]? = some u → w.cell? (ad.add j) = some u := by
  intro ad e j u hu
  obtain ⟨hk, hv⟩ := flatE_cell hu
  obtain ⟨b, o, e1, _, hc⟩ := h.at_ (j / 7) hk
  rw [e] at e1
  cases e1
  have := hc _ _ hv
  rw [show o + (j / 7 * 7 + j % 7) = o + j by omega] at this
  rw [Addr.add_lit]
  exact this
/-- The cut 's[1:]'. -/
theorem Es.tail (h : Es w A n c (x :: l)) : Es w (if c = 1 then A else A.map (·.add 7)) (n - 1) (c - 1) l := by
  have hl := h.len
  have hc := h.cap
  rw [List.length_cons] at hl
  refine ⟨by omega, by omega, by have := h.max; omega, fun e => ?_, fun j hj => ?_, fun y hy => h.wf y (List.mem_cons_of_mem _ hy)⟩
  · split at e
    · omega
    · have := h.nil (by simpa using e)
      omega
  · obtain ⟨b, o, rfl, hlt, hcell⟩ := h.at_ (j + 1) (by simp; omega)
    rw [if_neg (by omega)]
    refine ⟨b, o + 7, by simp [Addr.add_lit], hlt, fun i v hv => ?_⟩
    have := hcell i v (by simpa using hv)
    rw [show o + 7 + (j * 7 + i) = o + ((j + 1) * 7 + i) by omega]
    exact this
theorem Es.of_own {base : Nat} {e : TypeId} {v : Value} (h : w.ownsRow base e 7 v n (flatE l)) (hw : ∀ x ∈ l, Wf x) : ∃ A c, v = .slice A n c ∧ Es w A n c l := by
  have hl : n = l.length := by have := h.1; rw [flatE_len] at this; omega
  subst hl
  rcases h.2 with ⟨rfl, h0⟩ | ⟨g, cap, cur, rfl, hb, hg, h2, h3, h4, h5⟩
  · have : l = [] := List.eq_nil_of_length_eq_zero h0
    subst this
    exact ⟨none, 0, rfl, Es.none_ _⟩
  · refine ⟨_, _, rfl, ⟨rfl, h2, h3, by simp, fun j hj => ⟨g, 0, rfl, (Array.getElem?_eq_some_iff.1 hg).1, fun i u hu => ?_⟩, hw⟩⟩
    rw [Nat.zero_add]
    have hi : i < 7 := by have := (List.getElem?_eq_some_iff.1 hu).1; simpa [ev] using this
    exact (h.cellAt (j * 7 + i) (by omega)).trans (flatE_get l j hj i u hu)
theorem Es.of_bx {g : Nat} {t : TypeId} {cs : Array Value} (h : Bx w g t cs) (e : cs = (flatE l).toArray) (hn : n = l.length) (hm : n ≤ maxLen) (hw : ∀ x ∈ l, Wf x) : Es w (some ⟨g, 0, none⟩) n n l :=
  ⟨hn, Nat.le_refl _, hm, by simp, fun j hj => ⟨g, 0, rfl, h.lt, fun i u hu => by
    rw [Nat.zero_add, h.cell, e, List.getElem?_toArray]
    exact flatE_get l j hj i u hu⟩, hw⟩
end
theorem info_en : (Try.prog.info? 32).map (fun i => (i.zero, i.size, i.bytes)) = some (some (.agg #[.int .i64 0, .int .i64 0, .int .i64 0, .int .i64 0, .int .i64 0, .int .i64 0, .int .i64 0]), 7, 56) := by kernel_rfl
theorem ev_new (w : World) (x : En) (cs : Array Value) (hc : cs = (ev x).toArray) : ∀ j u, (ev x)[j]? = some u → (w.alloc (.cells cs 32)).cell? ((⟨w.heap.size, 0, none⟩ : Addr).add j) = some u := by
  intro j u hu
  subst hc
  rw [Addr.add_lit, Nat.zero_add, (Bx.new w 32 (ev x).toArray).cell j]
  simpa using hu
/-- append of entries, from whatever slice, onto a row of the call's own. -/
theorem run_appEs (w : World) (ty : TypeId) (B : Nat) (v : Value) (l : List En) (hown : w.ownsRow B 32 7 v l.length (flatE l)) (A : Option Addr) (n c : Nat) (m : List En) (hV : Es w A n c m) (hL : l.length + m.length ≤ 1000000) (hB : B ≤ w.heap.size) :
    ∃ v' w', (Builtin.append_ #[22, 22] ty #[v, .slice A n c]).run Try.prog w = .ok v' w' ∧ w'.ownsRow B 32 7 v' (l ++ m).length (flatE (l ++ m)) ∧ w.grownBy w' v.ownBlock := by
  obtain ⟨i0, hi, hz0, hz1, hz2⟩ := info_parts info_en
  have hm := hV.len
  rcases A with _ | ad
  · obtain rfl := hV.nil rfl
    obtain rfl : n = 0 := by have := hV.cap; omega
    have hM : m = [] := List.eq_nil_of_length_eq_zero hm.symm
    subst hM
    refine ⟨v, w, ?_, by simpa using hown, World.grownBy.refl w _⟩
    exact run_append_owned_none (P := Try.prog) w B 22 ty 32 i0 7 Try.underlying22 hi v l.length _ hown
  · obtain ⟨v', w', hrun, h2, h3, _, _⟩ := run_append_own_at (P := Try.prog) w B 22 ty 32 i0 _ 7 56 Try.underlying22 hi hz0 hz1 hz2 rfl (by decide) v l.length _ hown ad n c (flatE m) (by rw [flatE_len, hm]) (hV.flat ad rfl) (flatE_one' m) (by unfold maxLen; omega) (by omega) hB
    exact ⟨v', w', hrun, by rw [List.length_append, flatE_app, ← hm]; exact h2, h3⟩
theorem wpList_appEs (w : World) {ops : Array Oper} {rest : List Oper} {o : Oper} {a : Act} {Q : Exit → Act → World → Prop} (hgd : o.guard = none) (s x : Operand)
    (ho : o.op = .call { callee := .builtin .append, args := #[s, x], argTypes := #[22, 22] })
    (B : Nat) (v : Value) (l : List En) (hs : a.eval s = v) (hown : w.ownsRow B 32 7 v l.length (flatE l)) (A : Option Addr) (n c : Nat) (m : List En) (hx : a.eval x = .slice A n c) (hV : Es w A n c m) (hL : l.length + m.length ≤ 1000000) (hB : B ≤ w.heap.size)
    (h : ∀ v' w', w'.ownsRow B 32 7 v' (l ++ m).length (flatE (l ++ m)) → w.grownBy w' v.ownBlock → wpList Try.prog ops Q rest (a.put o.dst v') w') : wpList Try.prog ops Q (o :: rest) a w := by
  refine wpList_plain hgd fun K hK => ?_
  obtain ⟨v', w', hrun, h2, h3⟩ := run_appEs w o.type B v l hown A n c m hV hL hB
  unfold Oper.wp
  simp [execOp, ho, resolve, invoke, builtin, hs, hx, hrun, Result.andThen]
  exact hK _ _ (h v' w' h2 h3)

/-! ### A row of entries of the call's own that was cut ahead -/
/-- The value is a row of the call's own, perhaps cut, of the entries l. -/
def OwE (w : World) (B : Nat) (v : Value) (l : List En) : Prop :=
  (v = .slice none 0 0 ∧ l = []) ∨ ∃ g cap pre suf, v = .slice (some ⟨g, pre.length, none⟩) l.length cap ∧ B ≤ g ∧ l.length ≤ cap ∧ cap ≤ maxLen ∧ (cap - l.length) * 7 ≤ suf.length ∧ Bx w g 32 (pre ++ flatE l ++ suf).toArray
theorem setCells_other (g : Nat) : ∀ (vs : List Value) (o : Nat) (w : World) (b : Nat), b ≠ g → (w.setCells g o vs).heap[b]? = w.heap[b]?
  | [], _, _, _, _ => rfl
  | v :: r, o, w, b, h => by
    rw [World.setCells, setCells_other g r (o + 1) _ b h]
    exact heap_setCell_other w ⟨g, o, none⟩ b v h
theorem setCells_size (g : Nat) : ∀ (vs : List Value) (o : Nat) (w : World), (w.setCells g o vs).heap.size = w.heap.size
  | [], _, _ => rfl
  | v :: r, o, w => by rw [World.setCells, setCells_size g r (o + 1)]; simp
theorem setCells_bx (g : Nat) (t : TypeId) : ∀ (vs old pre suf : List Value) (w : World), old.length = vs.length → Bx w g t (pre ++ old ++ suf).toArray → Bx (w.setCells g pre.length vs) g t (pre ++ vs ++ suf).toArray
  | [], [], _, _, _, _, h => h
  | v :: r, u :: old, pre, suf, w, hl, h => by
    rw [World.setCells]
    have h1 : Bx (w.setCell ⟨g, pre.length, none⟩ v) g t ((pre ++ [v]) ++ old ++ suf).toArray := by
      have := heap_setCell_same w g pre.length _ t v h
      unfold Bx
      rw [this]
      simp
    have := setCells_bx g t r old (pre ++ [v]) suf _ (by simpa using hl) h1
    simpa using this
theorem setCells_rest (g : Nat) : ∀ (vs : List Value) (o : Nat) (w : World), (w.setCells g o vs).os = w.os ∧ (w.setCells g o vs).tape = w.tape ∧ (w.setCells g o vs).output = w.output
  | [], _, _ => ⟨rfl, rfl, rfl⟩
  | v :: r, o, w => by
    rw [World.setCells]
    exact setCells_rest g r (o + 1) (w.setCell ⟨g, o, none⟩ v)
theorem setCells_grown (w : World) (g o : Nat) (vs : List Value) : w.grownBy (w.setCells g o vs) (some g) := by
  obtain ⟨a, b, c⟩ := setCells_rest g vs o w
  exact ⟨a, b, c, by rw [setCells_size]; exact Nat.le_refl _, fun k hk hne => setCells_other g vs o w k (fun e => hne (by rw [e]))⟩
/-- A live list: a slice of entries that is either full, or a row of the call's own. -/
structure Lv (w : World) (B : Nat) (A : Option Addr) (n c : Nat) (l : List En) : Prop where
  es : Es w A n c l
  own : c = n ∨ OwE w B (.slice A n c) l
theorem Lv.nil (w : World) (B : Nat) : Lv w B none 0 0 [] := ⟨Es.none_ w, .inl rfl⟩
theorem OwE.grown (w : World) (B : Nat) (l : List En) (k : Nat) (cs : Array Value) (hB : B ≤ w.heap.size) (hcs : cs.toList = flatE l ++ (Builtin.zeroCells (Value.agg #[.int .i64 0, .int .i64 0, .int .i64 0, .int .i64 0, .int .i64 0, .int .i64 0, .int .i64 0]).cells (k - l.length)).toList) (h1 : l.length ≤ k) (h2 : k ≤ maxLen) : OwE (w.alloc (.cells cs 32)) B (.slice (some ⟨w.heap.size, 0, none⟩) l.length k) l := by
  refine .inr ⟨w.heap.size, k, [], (Builtin.zeroCells (Value.agg #[.int .i64 0, .int .i64 0, .int .i64 0, .int .i64 0, .int .i64 0, .int .i64 0, .int .i64 0]).cells (k - l.length)).toList, rfl, hB, h1, h2, ?_, ?_⟩
  · have e := size_zeroCells (Value.agg #[.int .i64 0, .int .i64 0, .int .i64 0, .int .i64 0, .int .i64 0, .int .i64 0, .int .i64 0]).cells (k - l.length)
    rw [← Array.length_toList] at e
    rw [e]
    exact Nat.le_refl _
  · rw [List.nil_append, ← hcs]
    exact Bx.new w _ _
theorem OwE.es {w : World} {B : Nat} {A : Option Addr} {n c : Nat} {l : List En} (h : OwE w B (.slice A n c) l) (hw : ∀ x ∈ l, Wf x) : Es w A n c l := by
  rcases h with ⟨e, rfl⟩ | ⟨g, cap, pre, suf, e, h1, h2, h3, h4, h5⟩
  · cases e
    exact Es.none_ _
  · cases e
    refine ⟨rfl, h2, h3, by simp, fun j hj => ⟨g, _, rfl, h5.lt, fun i u hu => ?_⟩, hw⟩
    rw [h5.cell, List.getElem?_toArray, List.append_assoc, List.getElem?_append_right (by omega), Nat.add_sub_cancel_left, List.getElem?_append_left (by
      have hi : i < 7 := by have := (List.getElem?_eq_some_iff.1 hu).1; simpa [ev] using this
      rw [flatE_len]
      omega)]
    exact flatE_get l j hj i u hu
theorem OwE.at_ {w w' : World} {B : Nat} {v : Value} {l : List En} (h : OwE w B v l) (hk : ∀ g, v.ownBlock = some g → w'.heap[g]? = w.heap[g]?) : OwE w' B v l := by
  rcases h with h | ⟨g, cap, pre, suf, e, h1, h2, h3, h4, h5⟩
  · exact .inl h
  · exact .inr ⟨g, cap, pre, suf, e, h1, h2, h3, h4, h5.at_ (hk g (by rw [e]; rfl))⟩
/-- The cut 's[1:]' of such a list. -/
theorem Lv.tail {w : World} {B : Nat} {A : Option Addr} {n c : Nat} {x : En} {l : List En} (h : Lv w B A n c (x :: l)) : Lv w B (if c = 1 then A else A.map (·.add 7)) (n - 1) (c - 1) l := by
  refine ⟨h.es.tail, ?_⟩
  rcases h.own with e | e
  · exact .inl (by omega)
  · have hn := h.es.len
    rw [List.length_cons] at hn
    rcases e with ⟨e, e2⟩ | ⟨g, cap, pre, suf, e, h1, h2, h3, h4, h5⟩
    · cases e2
    · cases e
      rw [List.length_cons] at h2 h4
      by_cases q : c = 1
      · left
        omega
      · right
        refine .inr ⟨g, c - 1, pre ++ ev x, suf, ?_, h1, by omega, by omega, by omega, ?_⟩
        · rw [if_neg q, Option.map_some, Addr.add_lit, List.length_append, show (ev x).length = 7 from rfl]
          simp
        · rw [Jo.flatE_cons] at h5
          simpa using h5
set_option maxHeartbeats 2000000 in
/-- append of one entry onto such a list. -/
theorem run_appE (w : World) (ty : TypeId) (B : Nat) (A : Option Addr) (n c : Nat) (l : List En) (hv : Lv w B A n c l) (ad : Addr) (x : En) (hx : Wf x) (hc : ∀ j u, (ev x)[j]? = some u → w.cell? (ad.add j) = some u) (hL : l.length ≤ 1000000) (hB : B ≤ w.heap.size) :
    ∃ A' c' w', (Builtin.append_ #[22, 22] ty #[.slice A n c, .slice (some ad) 1 1]).run Try.prog w = .ok (.slice A' (n + 1) c') w' ∧ Lv w' B A' (n + 1) c' (l ++ [x]) ∧ Mv (fun g => n < c ∧ B ≤ g ∧ (Value.slice A n c).ownBlock = some g) w w' ∧ ∀ g, (Value.slice A' (n + 1) c').ownBlock = some g → (n < c ∧ B ≤ g ∧ (Value.slice A n c).ownBlock = some g) ∨ w.heap.size ≤ g := by
  obtain ⟨i0, hi, hz0, hz1, hz2⟩ := info_parts info_en
  have hn := hv.es.len
  have hm := hv.es.max
  have hsz : (l ++ [x]).length = n + 1 := by simp [hn]
  have hvs : (ev x).length = 1 * i0.size := by rw [hz1]; rfl
  have hwf : ∀ y ∈ l ++ [x], Wf y := fun y hy => by
    rcases List.mem_append.1 hy with q | q
    · exact hv.es.wf y q
    · rw [List.mem_singleton.1 q]; exact hx
  by_cases hroom : n + 1 ≤ c
  · have how := hv.own.resolve_left (by omega)
    rcases how with ⟨e, rfl⟩ | ⟨g, cap, pre, suf, e, h1, h2, h3, h4, h5⟩
    · cases e
      omega
    · cases e
      obtain ⟨old, suf', rfl, ho⟩ : ∃ old suf', suf = old ++ suf' ∧ old.length = 7 := ⟨suf.take 7, suf.drop 7, (List.take_append_drop 7 suf).symm, by rw [List.length_take]; omega⟩
      have hlen : (pre ++ flatE l).length = pre.length + l.length * 7 := by rw [List.length_append, flatE_len]
      have h6 : Bx w g 32 ((pre ++ flatE l) ++ old ++ suf').toArray := by simpa using h5
      have hr := run_append_room_cells (P := Try.prog) w 22 ty 32 i0 Try.underlying22 hi g pre.length l.length c ad 1 1 (ev x) hvs hc (Jo.ev_one x) hroom (fun j hj => by
          rw [h6.cell, hz1, List.getElem?_toArray, List.getElem?_eq_getElem (by
            have : j < 7 := hj
            simp only [List.length_append, flatE_len, ho]
            omega)]
          rfl) (fun j _ => h6.free _)
      have h7 := setCells_bx g 32 (ev x) old (pre ++ flatE l) suf' w ho h6
      rw [hlen] at h7
      rw [hz1] at hr
      refine ⟨_, _, _, hr, ?_, Mv.of_grown (setCells_grown w g _ _) (fun q hq => by cases hq; exact ⟨by omega, h1, rfl⟩), fun q hq => .inl (by cases hq; exact ⟨by omega, h1, rfl⟩)⟩
      have ow : OwE (w.setCells g (pre.length + l.length * 7) (ev x)) B (.slice (some ⟨g, pre.length, none⟩) (l.length + 1) c) (l ++ [x]) := by
        refine .inr ⟨g, c, pre, suf', by rw [hsz], h1, by rw [hsz]; exact hroom, h3, ?_, ?_⟩
        · rw [hsz]
          simp only [List.length_append, ho] at h4
          omega
        · rw [flatE_app, flatE_one]
          simpa using h7
      exact ⟨ow.es hwf, .inr ow⟩
  · have hcn : c = n := by have := hv.es.cap; omega
    have new : ∀ k, n + 1 ≤ k → k ≤ maxLen → ∀ cs : Array Value, cs.toList = flatE l ++ ev x ++ (Builtin.zeroCells (Value.agg #[.int .i64 0, .int .i64 0, .int .i64 0, .int .i64 0, .int .i64 0, .int .i64 0, .int .i64 0]).cells (k - (n + 1))).toList → Lv (w.drew.alloc (.cells cs 32)) B (some ⟨w.heap.size, 0, none⟩) (n + 1) k (l ++ [x]) := by
      intro k k1 k2 cs hcs
      have ow := OwE.grown w.drew B (l ++ [x]) k cs hB (by rw [hsz, hcs, flatE_app, flatE_one]) (by rw [hsz]; exact k1) k2
      rw [hsz] at ow
      exact ⟨ow.es hwf, .inr ow⟩
    have mv : ∀ (G : Nat → Prop) (o : Obj), Mv G w (w.drew.alloc o) := fun G o => (Mv.refl G w).drew.alloc o
    have bl : ∀ (G : Prop) (k : Nat) (q : Nat), (Value.slice (some ⟨w.heap.size, 0, none⟩) (n + 1) k).ownBlock = some q → G ∨ w.heap.size ≤ q := fun G k q hq => .inr (by cases hq; exact Nat.le_refl _)
    rcases A with _ | a
    · have hc0 := hv.es.nil rfl
      obtain rfl : n = 0 := by omega
      obtain rfl : c = 0 := hc0
      have hl0 : l = [] := List.eq_nil_of_length_eq_zero hn.symm
      subst hl0
      have hr := run_append_nil (P := Try.prog) w 22 ty 32 i0 _ Try.underlying22 hi hz0 ad 1 1 (ev x) hvs hc (by omega) (by omega) (by rw [hz2]; omega)
      exact ⟨_, _, _, hr, new _ (grownCap_ge _ _ _ _) (grownCap_le_maxLen w _ _ _ (by unfold maxLen; omega)) _ (by rw [Array.toList_append]; rfl), mv _ _, fun q hq => bl _ _ q hq⟩
    · have hr := run_append_grow (P := Try.prog) w 22 ty 32 i0 _ Try.underlying22 hi hz0 a n c (flatE l) (by rw [hz1, flatE_len, hn]) (hv.es.flat a rfl) ad 1 1 (ev x) hvs hc (by omega) (by omega) (growslice_fits (by omega) (by rw [hz2]; omega))
      exact ⟨_, _, _, hr, new _ (grownCap_ge _ _ _ _) (grownCap_le_maxLen w _ _ _ (by unfold maxLen; omega)) _ (by rw [Array.toList_append, Array.toList_append]), mv _ _, fun q hq => bl _ _ q hq⟩
theorem step_appE (w : World) {ops : Array Oper} {o : Oper} {a : Act} {K : Act → World → Prop} {Q : Exit → Act → World → Prop} {E : Prop} (hgd : o.guard = none) (s x : Operand)
    (ho : o.op = .call { callee := .builtin .append, args := #[s, x], argTypes := #[22, 22] })
    (B : Nat) (A : Option Addr) (n c : Nat) (l : List En) (hs : a.eval s = .slice A n c) (hv : Lv w B A n c l) (ad : Addr) (y : En) (hx : a.eval x = .slice (some ad) 1 1) (hy : Wf y) (hc : ∀ j u, (ev y)[j]? = some u → w.cell? (ad.add j) = some u) (hL : l.length ≤ 1000000) (hB : B ≤ w.heap.size)
    (h : ∀ A' c' w', Lv w' B A' (n + 1) c' (l ++ [y]) → Mv (fun g => n < c ∧ B ≤ g ∧ (Value.slice A n c).ownBlock = some g) w w' → (∀ g, (Value.slice A' (n + 1) c').ownBlock = some g → (n < c ∧ B ≤ g ∧ (Value.slice A n c).ownBlock = some g) ∨ w.heap.size ≤ g) → K (a.put o.dst (.slice A' (n + 1) c')) w') : if Region.wanted o (yielded ops a.tmps) = true then Oper.wp Try.prog o a w K Q else E := by
  rw [if_pos (by simp [Region.wanted, hgd])]
  obtain ⟨A', c', w', hrun, h2, h3, h4⟩ := run_appE w o.type B A n c l hv ad y hy hc hL hB
  unfold Oper.wp
  simp [execOp, ho, resolve, invoke, builtin, hs, hx, hrun, Result.andThen]
  exact h A' c' w' h2 h3 h4
theorem Lv.keep {w w' : World} {B : Nat} {A : Option Addr} {n c : Nat} {l : List En} {G : Nat → Prop} (h : Lv w B A n c l) (mv : Mv G w w') (hn : 0 < c → ∀ g, (Value.slice A n c).ownBlock = some g → ¬ G g) : Lv w' B A n c l := by
  have hl := h.es.len
  have hc := h.es.cap
  refine ⟨h.es.keep mv fun b o e q => hn (by omega) b (by rw [e]; rfl), ?_⟩
  rcases h.own with q | q
  · exact .inl q
  · by_cases c0 : c = 0
    · exact .inl (by omega)
    · refine .inr ?_
      rcases q with q | ⟨g, cap, pre, suf, e, h1, h2, h3, h4, h5⟩
      · exact .inl q
      · exact .inr ⟨g, cap, pre, suf, e, h1, h2, h3, h4, h5.at_ (mv.keep g h5.lt (hn (by omega) g (by rw [e]; rfl)))⟩
theorem Lv.below {w w' : World} {B : Nat} {A : Option Addr} {n c : Nat} {l : List En} (h : Lv w B A n c l) (hb : Below w.heap.size w w') : Lv w' B A n c l := h.keep (Mv.of_below (G := fun _ => False) hb) fun _ _ _ z => z
end Wd
end Go.Proofs.Ytljgalleiemaaaa
