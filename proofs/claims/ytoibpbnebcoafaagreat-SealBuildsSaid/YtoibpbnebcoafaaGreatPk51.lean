/- A row of columns of the call's own that grows, known whole with its spare room. -/
import Derived.WalkKit
import Derived.WalkSpells
import Derived.Lib.Hide
import Derived.IntWalk
import Derived.Maps.AppendAt
import Derived.Test.YtoibpbnebcoafaaGreatPk11
namespace Go.Proofs.YtoibpbnebcoafaaGreat
set_option maxRecDepth 20000
open Go.RowKit Go.Maps
namespace Wd
open Va (Vl null)
/-- The value is a row of its own of the columns L. -/
def OwC (w : World) (B : Nat) (v : Value) (L : List Cr) : Prop :=
  (v = .slice none 0 0 ∧ L = []) ∨ ∃ g cap, v = .slice (some ⟨g, 0, none⟩) L.length cap ∧ B ≤ g ∧ L.length ≤ cap ∧ cap ≤ maxLen ∧ Bx w g 70 (flatC (L ++ List.replicate (cap - L.length) default)).toArray
theorem OwC.nil (w : World) (B : Nat) : OwC w B (.slice none 0 0) [] := .inl ⟨rfl, rfl⟩
theorem OwC.block {w : World} {B : Nat} {v : Value} {L : List Cr} (h : OwC w B v L) {g : Nat} (hg : v.ownBlock = some g) : B ≤ g ∧ ∃ M, Bx w g 70 (flatC M).toArray := by
  rcases h with ⟨rfl, -⟩ | ⟨g', cap, rfl, h1, _, _, h2⟩
  · cases hg
  · cases hg
    exact ⟨h1, _, h2⟩
theorem OwC.keep {w w' : World} {B : Nat} {v : Value} {L : List Cr} {G : Nat → Prop} (h : OwC w B v L) (mv : Mv G w w') (hn : ∀ g, v.ownBlock = some g → ¬ G g) : OwC w' B v L := by
  rcases h with ⟨rfl, h⟩ | ⟨g, cap, rfl, h1, h2, h3, h4⟩
  · exact .inl ⟨rfl, h⟩
  · exact .inr ⟨g, cap, rfl, h1, h2, h3, (mv.keep g h4.lt (hn g rfl)).trans h4⟩
theorem OwC.below {w w' : World} {B : Nat} {v : Value} {L : List Cr} (h : OwC w B v L) (hb : Below w.heap.size w w') : OwC w' B v L := h.keep (Mv.of_below (G := fun _ => False) hb) fun _ _ z => z
theorem OwC.shape {w : World} {B : Nat} {v : Value} {L : List Cr} (h : OwC w B v L) : ∃ A c, v = .slice A L.length c := by
  rcases h with ⟨rfl, rfl⟩ | ⟨g, cap, rfl, _⟩
  · exact ⟨_, _, rfl⟩
  · exact ⟨_, _, rfl⟩
theorem OwC.cms {w : World} {B : Nat} {A : Option Addr} {n c : Nat} {L : List Cr} (h : OwC w B (.slice A n c) L) (h1 : ∀ j, j < L.length → Cr1 w (L.getD j default)) : Cms w A n c L := by
  rcases h with ⟨e, rfl⟩ | ⟨g, cap, e, h2, h3, h4, h5⟩
  · cases e
    exact Cms.none_ _
  · cases e
    refine ⟨rfl, h3, h4, by simp, fun j hj => ⟨g, 0, rfl, h5.lt, fun i v hv => ?_, h1 j hj⟩⟩
    rw [Nat.zero_add, h5.cell, List.getElem?_toArray]
    refine flatC_get _ j (by simp; omega) i v ?_
    have e : (L ++ List.replicate (c - L.length) default).getD j default = L.getD j default := by simp only [List.getD]; rw [List.getElem?_append_left hj]
    rw [e]
    exact hv
theorem flatC_nos (L : List Cr) : ∀ v ∈ flatC L, ∀ x, v ≠ .string x := by
  intro v hv x
  obtain ⟨o, _, h⟩ := List.mem_flatMap.1 hv
  simp only [Cr.vals, List.mem_cons, List.not_mem_nil, or_false] at h
  rcases h with rfl | rfl | rfl <;> simp
/-- A column stays where a block turns that holds neither texts nor bytes. -/
theorem Cr1.keep {w w' : World} {o : Cr} {G : Nat → Prop} (h : Cr1 w o) (mv : Mv G w w') (hG : ∀ g, G g → ∃ (t : TypeId) (cs : List Value), Bx w g t cs.toArray ∧ (∀ v ∈ cs, ∀ x, v ≠ .string x) ∧ ∀ v ∈ cs, ∀ x, v ≠ .int .u8 x) : Cr1 w' o :=
  ⟨h.dict.keep mv fun a ha hn q => by
    obtain ⟨t, cs, hb, h1, _⟩ := hG _ q
    exact h.dict.apart hb h1 a ha hn rfl, h.ids.keep mv fun a ha hn q => by
    obtain ⟨t, cs, hb, _, h2⟩ := hG _ q
    exact h.ids.apart hb h2 a ha hn rfl, h.byt, h.n0, h.n1, h.str⟩
theorem Cr1.grown {w w' : World} {B : Nat} {v : Value} {L : List Cr} {o : Cr} (h : Cr1 w o) (k : OwC w B v L) (hg : w.grownBy w' v.ownBlock) : Cr1 w' o :=
  h.keep (Mv.of_grown (G := fun x => v.ownBlock = some x) hg fun _ e => e) fun g q => by
    obtain ⟨_, M, hb⟩ := k.block q
    exact ⟨_, _, hb, flatC_nos M, flatC_no M⟩
theorem zeros_col (n : Nat) : (Builtin.zeroCells (Value.agg #[.int .i64 0, .slice none 0 0, .slice none 0 0]).cells n).toList = flatC (List.replicate n default) := made_col n
theorem Cr.vals_one (o : Cr) : ∀ u ∈ o.vals, u.oneCell' = true := by
  intro u hu
  simp only [Cr.vals, List.mem_cons, List.not_mem_nil, or_false] at hu
  rcases hu with rfl | rfl | rfl <;> rfl
theorem flatC_repl (k : Nat) : flatC (List.replicate (k + 1) default) = (default : Cr).vals ++ flatC (List.replicate k default) := by
  rw [List.replicate_succ]
  rfl
set_option maxHeartbeats 2000000 in
/-- append of one column. -/
theorem run_appC (w : World) (ty : TypeId) (B : Nat) (v : Value) (L : List Cr) (hown : OwC w B v L) (ad : Addr) (o : Cr) (hc : ∀ j u, o.vals[j]? = some u → w.cell? (ad.add j) = some u) (hL : L.length ≤ 1000000) (hB : B ≤ w.heap.size) :
    ∃ A c w', (Builtin.append_ #[26, 26] ty #[v, .slice (some ad) 1 1]).run Tryz.prog w = .ok (.slice A (L.length + 1) c) w' ∧ OwC w' B (.slice A (L.length + 1) c) (L ++ [o]) ∧ w.grownBy w' v.ownBlock := by
  obtain ⟨i0, hi, hz0, hz1, hz2⟩ := info_parts info_col
  have hsz : (L ++ [o]).length = L.length + 1 := by simp
  have hvs : o.vals.length = 1 * i0.size := by rw [hz1]; rfl
  -- what growing leaves
  have grown : ∀ (old : Nat), B ≤ w.heap.size → OwC (w.drew.alloc (.cells ((flatC L).toArray ++ o.vals.toArray ++ Builtin.zeroCells (Value.agg #[.int .i64 0, .slice none 0 0, .slice none 0 0]).cells (grownCap w (L.length + 1) old 70 - (L.length + 1))) 70)) B (.slice (some ⟨w.heap.size, 0, none⟩) (L.length + 1) (grownCap w (L.length + 1) old 70)) (L ++ [o]) := by
    intro old hb
    refine .inr ⟨w.heap.size, grownCap w (L.length + 1) old 70, by rw [hsz], hb, by rw [hsz]; exact grownCap_ge _ _ _ _, grownCap_le_maxLen w _ _ _ (by unfold maxLen; omega), ?_⟩
    rw [hsz, flatC_app, flatC_app, flatC_one]
    have e : (flatC L).toArray ++ o.vals.toArray ++ Builtin.zeroCells (Value.agg #[.int .i64 0, .slice none 0 0, .slice none 0 0]).cells (grownCap w (L.length + 1) old 70 - (L.length + 1)) = (flatC L ++ o.vals ++ flatC (List.replicate (grownCap w (L.length + 1) old 70 - (L.length + 1)) default)).toArray := by
      apply Array.ext'
      rw [Array.toList_append, Array.toList_append, zeros_col]
    rw [e]
    exact Bx.new w.drew _ _
  have grb : ∀ (o' : Obj) (row : Option Nat), w.grownBy (w.drew.alloc o') row := fun o' row => ⟨rfl, rfl, rfl, by simp, fun k hk _ => Below.heap_alloc w.drew _ k hk⟩
  rcases hown with ⟨rfl, rfl⟩ | ⟨g, cap, rfl, h1, h2, h3, h4⟩
  · have hr := run_append_nil (P := Tryz.prog) w 26 ty 70 i0 _ Tryz.underlying26 hi hz0 ad 1 1 o.vals hvs hc (by omega) (by omega) (by rw [hz2]; omega)
    have := grown 0 hB
    simp only [List.length_nil, Nat.zero_add] at this
    refine ⟨_, _, _, hr, ?_, grb _ _⟩
    simpa [flatC] using this
  · by_cases hroom : L.length + 1 ≤ cap
    · obtain ⟨q, hq⟩ : ∃ q, cap - L.length = q + 1 := ⟨cap - L.length - 1, by omega⟩
      have hb : w.heap[g]? = some (.cells (flatC (L ++ List.replicate (cap - L.length) default)).toArray 70 (0, 0)) := h4
      have hr := run_append_room (P := Tryz.prog) w 26 ty 70 i0 Tryz.underlying26 hi g L.length cap _ hb ad 1 1 o.vals hvs hc o.vals_one hroom (by
        rw [hz1]
        simp only [List.size_toArray, flatC_len, List.length_append, List.length_replicate, Cr.vals, List.length_cons, List.length_nil]
        omega)
      refine ⟨_, _, _, hr, .inr ⟨g, cap, by rw [hsz], h1, by rw [hsz]; exact hroom, h3, ?_⟩, ⟨rfl, rfl, rfl, by simp, fun k _ hk => setRow_other w g k _ (fun e => hk (by simp [Value.ownBlock, e]))⟩⟩
      have := setRow_heap w g _ (List.take (L.length * i0.size) (flatC (L ++ List.replicate (cap - L.length) default)).toArray.toList ++ o.vals ++ List.drop (L.length * i0.size + o.vals.length) (flatC (L ++ List.replicate (cap - L.length) default)).toArray.toList).toArray _ _ hb
      unfold Bx
      rw [this]
      congr 3
      rw [hz1, hsz, show cap - (L.length + 1) = q by omega, hq, flatC_app, flatC_app, flatC_app, flatC_one, flatC_repl]
      have hl3 : (flatC L).length = L.length * 3 := flatC_len L
      rw [← hl3, List.take_left, ← List.append_assoc, show (flatC L).length + o.vals.length = (flatC L ++ (default : Cr).vals).length by simp [Cr.vals], List.drop_left]
    · have holds : ∀ j u, (flatC L)[j]? = some u → w.cell? ((⟨g, 0, none⟩ : Addr).add j) = some u := fun j u hu => by
        rw [Addr.add_lit, Nat.zero_add, h4.cell, List.getElem?_toArray, flatC_app, List.getElem?_append_left (List.getElem?_eq_some_iff.1 hu).1]
        exact hu
      have hr := run_append_grow (P := Tryz.prog) w 26 ty 70 i0 _ Tryz.underlying26 hi hz0 ⟨g, 0, none⟩ L.length cap (flatC L) (by rw [hz1]; exact flatC_len L) holds ad 1 1 o.vals hvs hc (by omega) (by omega) (growslice_fits (by omega) (by rw [hz2]; omega))
      exact ⟨_, _, _, hr, grown cap hB, grb _ _⟩
theorem wpList_appC (w : World) {ops : Array Oper} {rest : List Oper} {o : Oper} {a : Act} {Q : Exit → Act → World → Prop} (hgd : o.guard = none) (s x : Operand)
    (ho : o.op = .call { callee := .builtin .append, args := #[s, x], argTypes := #[26, 26] })
    (B : Nat) (v : Value) (L : List Cr) (hs : a.eval s = v) (hown : OwC w B v L) (ad : Addr) (y : Cr) (hx : a.eval x = .slice (some ad) 1 1) (hc : ∀ j u, y.vals[j]? = some u → w.cell? (ad.add j) = some u) (hL : L.length ≤ 1000000) (hB : B ≤ w.heap.size)
    (h : ∀ A c w', OwC w' B (.slice A (L.length + 1) c) (L ++ [y]) → w.grownBy w' v.ownBlock → wpList Tryz.prog ops Q rest (a.put o.dst (.slice A (L.length + 1) c)) w') : wpList Tryz.prog ops Q (o :: rest) a w := by
  refine wpList_plain hgd fun K hK => ?_
  obtain ⟨A, c, w', hrun, h2, h3⟩ := run_appC w o.type B v L hown ad y hc hL hB
  unfold Oper.wp
  simp [execOp, ho, resolve, invoke, builtin, hs, hx, hrun, Result.andThen]
  exact hK _ _ (h A c w' h2 h3)
end Wd
end Go.Proofs.YtoibpbnebcoafaaGreat
