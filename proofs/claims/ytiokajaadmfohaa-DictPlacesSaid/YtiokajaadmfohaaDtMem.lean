/- A dictionary in memory: its record, its map, its row of values; what is kept while other blocks turn. -/
import Derived.Test.YtiokajaadmfohaaDcIfc
import Derived.Test.YtiokajaadmfohaaDcMap
namespace Go.Proofs.Ytiokajaadmfohaa
set_option maxRecDepth 20000
open Go.RowKit Go.Maps
namespace Dt
open Va (Vl May ord null)
open Dc Dx
/-- A dictionary in memory: record d, map m, slice v, list L; all of it lies in blocks of G. -/
structure Lay (w : World) (d m : Nat) (v : Value) (L : List Vl) (k : Int) (G : Nat → Prop) : Prop where
  box : Wd.Bx w d 55 #[.int .i64 (lim k), .map (some m), v]
  own : w.ownsMap Try.prog 24 (plainElem Try.prog 3) m L.length (Dm.Dd L)
  row : w.ownsRow 0 24 4 v L.length (Wd.flatV L)
  gd : G d
  gm : G m
  gv : ∀ x, v.ownBlock = some x → G x
  bd : ∀ g, G g → g < w.heap.size
section
variable {w w' : World} {d m : Nat} {v : Value} {L : List Vl} {k : Int} {G : Nat → Prop}
theorem Lay.mp (h : Lay w d m v L k G) : ∃ es clock, w.heap[m]? = some (.map es clock) := by
  obtain ⟨es, clock, hb, _⟩ := h.own
  exact ⟨es, clock, hb⟩
theorem Lay.md (h : Lay w d m v L k G) : m ≠ d := by
  obtain ⟨es, clock, hb⟩ := h.mp
  intro e
  have := h.box
  unfold Wd.Bx at this
  rw [← e, hb] at this
  cases this
theorem Lay.mv (h : Lay w d m v L k G) : v.ownBlock ≠ some m := by
  obtain ⟨es, clock, hb⟩ := h.mp
  intro e
  obtain ⟨_, _, cur, hc⟩ := Wd.own_lt h.row e
  rw [hb] at hc
  cases hc
theorem Lay.dv (h : Lay w d m v L k G) : v.ownBlock ≠ some d := by
  intro e
  obtain ⟨_, _, cur, hc⟩ := Wd.own_lt h.row e
  have h2 := h.box
  unfold Wd.Bx at h2
  rw [h2] at hc
  simp at hc
/-- Nothing of it turns. -/
theorem Lay.at_ (h : Lay w d m v L k G) (hs : w.heap.size ≤ w'.heap.size) (hk : ∀ g, G g → w'.heap[g]? = w.heap[g]?) : Lay w' d m v L k G :=
  ⟨h.box.at_ (hk d h.gd), Wd.map_keep h.own (hk m h.gm), Wd.own_keep h.row (fun x hx => hk x (h.gv x hx)), h.gd, h.gm, h.gv, fun g hg => Nat.lt_of_lt_of_le (h.bd g hg) hs⟩
theorem Lay.below (h : Lay w d m v L k G) (hb : Below w.heap.size w w') : Lay w' d m v L k G := h.at_ hb.size fun g hg => hb.block g (h.bd g hg)
/-- A value that was not there comes. -/
theorem Lay.more {w1 w2 : World} {v' : Value} (h : Lay w d m v L k G) (x : Vl) (hm : w1.ownsMap Try.prog 24 (plainElem Try.prog 3) m (L.length + 1) ((Dm.Dd L).put (Dm.keyV x) (.lit (.int .i64 (L.length : Int)))))
    (g1 : w.grownBy w1 (some m)) (hr : w2.ownsRow 0 24 4 v' (L ++ [x]).length (Wd.flatV (L ++ [x]))) (g2 : w1.grownBy w2 v.ownBlock) (hl : v'.ownBlock = v.ownBlock ∨ v'.ownBlock = some w1.heap.size) :
    Lay (w2.setCell ⟨d, 2, none⟩ v') d m v' (L ++ [x]) k (Wd.Gr G w (w2.setCell ⟨d, 2, none⟩ v')) ∧ Wd.Mv G w (w2.setCell ⟨d, 2, none⟩ v') := by
  have z1 := g1.size
  have z2 := g2.size
  have hs : (w2.setCell ⟨d, 2, none⟩ v').heap.size = w2.heap.size := by simp [World.setCell]
  have dm : m ≠ d := h.md
  have dlt := h.box.lt
  have mlt := h.own.lt
  have b1 : Wd.Bx w1 d 55 #[.int .i64 (lim k), .map (some m), v] := h.box.at_ (g1.block d dlt (by simpa using dm.symm))
  have b2 : Wd.Bx w2 d 55 #[.int .i64 (lim k), .map (some m), v] := b1.at_ (g2.block d (by omega) (fun e => h.dv e.symm))
  have m2 := hm.kept g2 (fun e => h.mv e.symm)
  have hvd : ∀ y, v'.ownBlock = some y → y ≠ d := by
    intro y hy e
    rcases hl with q | q
    · exact h.dv (by rw [← q, hy, e])
    · rw [hy] at q
      have := Option.some.inj q
      omega
  refine ⟨⟨?_, ?_, ?_, .inl h.gd, .inl h.gm, ?_, ?_⟩, ?_⟩
  · have := b2.set 2 v'
    simpa using this
  · rw [Dm.Dd_app, List.length_append, List.length_singleton]
    exact Wd.map_keep m2 (Below.heap_setCell _ _ _ _ (by simpa using dm))
  · exact Wd.own_keep hr fun y hy => Below.heap_setCell _ _ _ _ (hvd y hy)
  · intro y hy
    rcases hl with q | q
    · exact .inl (h.gv y (by rw [← q, hy]))
    · rw [hy] at q
      have := Option.some.inj q
      exact .inr ⟨by omega, by rw [hs]; exact (Wd.own_lt hr hy).1⟩
  · exact Wd.Gr.lt h.bd (by rw [hs]; omega)
  · have k1 : Wd.Mv G w w1 := Wd.Mv.of_grown g1 (fun g hg => by cases hg; exact h.gm)
    have k2 : Wd.Mv G w1 w2 := Wd.Mv.of_grown g2 (fun g hg => h.gv g hg)
    exact (k1.then k2).set h.gd _
/-- A new one. -/
theorem Lay.new {w1 : World} (hb : Wd.Bx w1 d 55 #[.int .i64 (lim k), .map (some m), .slice none 0 0]) (ho : w1.ownsMap Try.prog 24 (plainElem Try.prog 3) m 0 (.map [] : DataW Unit)) :
    Lay w1 d m (.slice none 0 0) [] k (fun g => g = d ∨ g = m) :=
  ⟨hb, ho, World.ownsRow_nil _ _ _ _, .inl rfl, .inr rfl, fun x hx => by simp [Value.ownBlock] at hx, fun g hg => by
    rcases hg with rfl | rfl
    · exact hb.lt
    · exact ho.lt⟩
end
/-- A dictionary of the list L, made for k values, in blocks of G alone. -/
def D (w : World) (d : Nat) (L : List Vl) (k : Int) (G : Nat → Prop) : Prop := ∃ m v, Lay w d m v L k G
/-- Its row as a slice of values. -/
theorem Lay.vs {w : World} {d m : Nat} {v : Value} {L : List Vl} {k : Int} {G : Nat → Prop} (h : Lay w d m v L k G) (ho : ∀ x ∈ L, Okv x) : ∃ A n c, v = .slice A n c ∧ Wd.Vs w A n c L :=
  Wd.Vs.of_own h.row fun j hj => (ho _ (by rw [List.getD_eq_getElem?_getD, List.getElem?_eq_getElem hj]; exact List.getElem_mem hj)).1
end Dt
end Go.Proofs.Ytiokajaadmfohaa
