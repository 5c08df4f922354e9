/- A simulated disk in memory: where its record, its map and its files lie, and what is kept while other blocks turn. -/
import Derived.Test.YthangnhccbnfbaaProg
import Derived.Test.YthangnhccbnfbaaBox
import Derived.Test.YthangnhccbnfbaaDkMath
import Derived.Maps.AppendAt
namespace Go.Proofs.Ythangnhccbnfbaa
open Go.RowKit Go.Maps
namespace Wd
section
variable {w w' : World} {g : Nat} {t : TypeId} {cs : Array Value}
theorem Bx.set (h : Bx w g t cs) (j : Nat) (u : Value) : Bx (w.setCell ⟨g, j, none⟩ u) g t (cs.setIfInBounds j u) := by
  unfold Bx
  rw [heap_setCell_same w g j cs t _ h]
theorem Bx.other (h : Bx w g t cs) {a : Addr} (ha : g ≠ a.block) (u : Value) : Bx (w.setCell a u) g t cs := by
  unfold Bx
  rw [heap_setCell_other w a g u ha]
  exact h
theorem Bx.drew (h : Bx w g t cs) : Bx w.drew g t cs := h
theorem Bx.at_ (h : Bx w g t cs) (e : w'.heap[g]? = w.heap[g]?) : Bx w' g t cs := e.trans h
theorem own_keep {B : Nat} {e : TypeId} {size n : Nat} {v : Value} {xs : List Value} (h : w.ownsRow B e size v n xs) (hk : ∀ x, v.ownBlock = some x → w'.heap[x]? = w.heap[x]?) : w'.ownsRow B e size v n xs := by
  obtain ⟨h1, h2⟩ := h
  refine ⟨h1, ?_⟩
  rcases h2 with h2 | ⟨g, cap, cur, hv, hg, hh, r⟩
  · exact .inl h2
  · exact .inr ⟨g, cap, cur, hv, hg, by rw [hk g (by rw [hv]; rfl)]; exact hh, r⟩
theorem own_lt {B : Nat} {e : TypeId} {size n : Nat} {v : Value} {xs : List Value} (h : w.ownsRow B e size v n xs) {x : Nat} (hx : v.ownBlock = some x) : x < w.heap.size ∧ B ≤ x ∧ ∃ cur, w.heap[x]? = some (.cells cur e (0, 0)) := by
  rcases h.2 with ⟨rfl, _⟩ | ⟨g, cap, cur, rfl, hg, hh, r⟩
  · simp [Value.ownBlock] at hx
  · have : g = x := by simpa [Value.ownBlock] using hx
    subst this
    exact ⟨lt_of_block hh, hg, cur, hh⟩
/-- The cut 'v[:k]' of a row of the call's own. -/
theorem own_head {B : Nat} {e : TypeId} {A : Option Addr} {n c k : Nat} {xs : List Value} (h : w.ownsRow B e 1 (.slice A n c) n xs) (hk : k ≤ n) : w.ownsRow B e 1 (.slice A k c) k (xs.take k) := by
  obtain ⟨h1, h2⟩ := h
  refine ⟨by simp; omega, ?_⟩
  rcases h2 with ⟨h2, h3⟩ | ⟨g, cap, cur, hv, hg, hh, r1, r2, r3, r4⟩
  · subst h3
    obtain rfl : k = 0 := by omega
    exact .inl ⟨h2, rfl⟩
  · simp only [Value.slice.injEq, true_and] at hv
    obtain ⟨rfl, rfl⟩ := hv
    refine .inr ⟨g, _, cur, rfl, hg, hh, by omega, r2, r3, ?_⟩
    rw [← r4, List.take_take]
    congr 1
    omega
theorem map_keep {H : Type} {P : Program} {k : TypeId} {R : Value → Option (DataW H × List MemPlace)} {b n : Nat} {D : DataW H} (h : w.ownsMap P k R b n D) (e : w'.heap[b]? = w.heap[b]?) : w'.ownsMap P k R b n D := by
  obtain ⟨es, clock, hb, r⟩ := h
  exact ⟨es, clock, e.trans hb, r⟩
/-- As tight as may be. -/
theorem map_tight {H : Type} {P : Program} {k : TypeId} {R : Value → Option (DataW H × List MemPlace)} {b n : Nat} {D : DataW H} (h : w.ownsMap P k R b n D) : w.ownsMap P k R b (Maps.size D) D := by
  obtain ⟨es, clock, hb, F, hs, rfl⟩ := h
  exact ⟨es, clock, hb, F, by simp [Maps.size, length_sorted], rfl⟩
end

/-- Nothing but the blocks of G has turned, and there may be new ones. -/
structure Mv (G : Nat → Prop) (w w' : World) : Prop where
  os : w'.os = w.os
  tape : w'.tape = w.tape
  output : w'.output = w.output
  size : w.heap.size ≤ w'.heap.size
  keep : ∀ g, g < w.heap.size → ¬ G g → w'.heap[g]? = w.heap[g]?
/-- G, and what is new. -/
def Gr (G : Nat → Prop) (w w' : World) (g : Nat) : Prop := G g ∨ (w.heap.size ≤ g ∧ g < w'.heap.size)
section
variable {G : Nat → Prop} {w w' w'' : World} {B : Nat}
theorem Mv.refl (G : Nat → Prop) (w : World) : Mv G w w := ⟨rfl, rfl, rfl, Nat.le_refl _, fun _ _ _ => rfl⟩
theorem Mv.mono {G' : Nat → Prop} (h : Mv G w w') (hG : ∀ g, G g → G' g) : Mv G' w w' := ⟨h.os, h.tape, h.output, h.size, fun g hg hn => h.keep g hg (fun k => hn (hG g k))⟩
theorem Mv.trans (h : Mv G w w') (k : Mv (Gr G w w') w' w'') : Mv G w w'' :=
  ⟨k.os.trans h.os, k.tape.trans h.tape, k.output.trans h.output, Nat.le_trans h.size k.size, fun g hg hn =>
    (k.keep g (Nat.lt_of_lt_of_le hg h.size) (fun q => by rcases q with q | q; exact hn q; omega)).trans (h.keep g hg hn)⟩
theorem Mv.then (h : Mv G w w') (k : Mv G w' w'') : Mv G w w'' := h.trans (k.mono fun _ hg => .inl hg)
theorem Gr.trans (h : w.heap.size ≤ w'.heap.size) (k : w'.heap.size ≤ w''.heap.size) (g : Nat) : Gr (Gr G w w') w' w'' g ↔ Gr G w w'' g := by
  unfold Gr
  constructor
  · rintro ((q | q) | q)
    · exact .inl q
    · exact .inr (by omega)
    · exact .inr (by omega)
  · rintro (q | q)
    · exact .inl (.inl q)
    · by_cases e : g < w'.heap.size
      · exact .inl (.inr (by omega))
      · exact .inr (by omega)
theorem Gr.eq (h : w.heap.size ≤ w'.heap.size) (k : w'.heap.size ≤ w''.heap.size) : Gr (Gr G w w') w' w'' = Gr G w w'' := funext fun g => propext (Gr.trans h k g)
theorem Mv.of_below (h : Below w.heap.size w w') : Mv G w w' := ⟨h.os, h.tape, h.output, h.size, fun g hg _ => h.block g hg⟩
theorem Mv.of_grown {row : Option Nat} (h : w.grownBy w' row) (hr : ∀ g, row = some g → G g) : Mv G w w' :=
  ⟨h.os, h.tape, h.output, h.size, fun g hg hn => h.block g hg (fun e => hn (hr g e.symm))⟩
theorem Mv.below (h : Mv G w w') (hG : ∀ g, G g → B ≤ g) (hB : B ≤ w.heap.size) : Below B w w' :=
  ⟨h.os, h.tape, h.output, h.size, fun g hg => h.keep g (by omega) (fun k => by have := hG g k; omega)⟩
theorem Mv.alloc (h : Mv G w w') (o : Obj) : Mv G w (w'.alloc o) := h.then (Mv.of_grown (World.grownBy_alloc w' o none) (by simp))
theorem Mv.set (h : Mv G w w') {a : Addr} (ha : G a.block) (u : Value) : Mv G w (w'.setCell a u) :=
  h.then ⟨rfl, rfl, rfl, by simp [World.setCell], fun g hg hn => Below.heap_setCell _ _ _ _ (fun e => hn (e ▸ ha))⟩
theorem Mv.drew (h : Mv G w w') : Mv G w w'.drew := ⟨h.os, h.tape, h.output, h.size, h.keep⟩
theorem Gr.ge (hG : ∀ g, G g → B ≤ g) (hB : B ≤ w.heap.size) : ∀ g, Gr G w w' g → B ≤ g := by
  rintro g (q | q)
  · exact hG g q
  · omega
theorem Gr.lt (hG : ∀ g, G g → g < w.heap.size) (h : w.heap.size ≤ w'.heap.size) : ∀ g, Gr G w w' g → g < w'.heap.size := by
  rintro g (q | q)
  · exact Nat.lt_of_lt_of_le (hG g q) h
  · exact q.2
end
end Wd

namespace Dk
/-- How a pointer to a record of a file reads. -/
def fp : Value → Option (DataW Unit × List MemPlace)
  | .pointer none => some (.nil, [])
  | .pointer (some ⟨b, 0, none⟩) => some (.lit (.int .i64 (b : Int)), [])
  | _ => none
theorem fp_some (b : Nat) : fp (.pointer (some ⟨b, 0, none⟩)) = some (.lit (.int .i64 (b : Int)), []) := rfl
theorem fp_inv {v : Value} {b : Nat} {ps : List MemPlace} (h : fp v = some (.lit (.int .i64 (b : Int)), ps)) : v = .pointer (some ⟨b, 0, none⟩) := by
  unfold fp at h
  split at h
  · simp at h
  · simp only [Option.some.injEq, Prod.mk.injEq, DataW.lit.injEq, Lit.int.injEq, true_and] at h
    have : _ = b := Int.ofNat.inj h.1
    rw [this]
  · cases h
theorem fp_nil {v : Value} {ps : List MemPlace} (h : fp v = some (.nil, ps)) : v = .pointer none := by
  unfold fp at h
  split at h
  · rfl
  · simp at h
  · cases h
theorem fp_any {v : Value} {y : DataW Unit × List MemPlace} (h : fp v = some y) : v = .pointer none ∨ ∃ b : Nat, v = .pointer (some ⟨b, 0, none⟩) ∧ y = (.lit (.int .i64 (b : Int)), []) := by
  unfold fp at h
  split at h
  · exact .inl rfl
  · exact .inr ⟨_, rfl, (Option.some.inj h).symm⟩
  · cases h
theorem law : Keyed Try.prog 9 := string_keyed Try.underlying9

/-- A disk in memory: record d, map m, files L; all of it lies in blocks of G. -/
structure Lay (w : World) (d m : Nat) (L : List Fil) (cap arm : Int) (dead : Bool) (G : Nat → Prop) : Prop where
  box : Wd.Bx w d 58 #[.map (some m), .int .i64 cap, .int .i64 arm, .bool dead]
  own : w.ownsMap Try.prog 9 fp m L.length (Dm L)
  fil : ∀ f ∈ L, Wd.Bx w f.blk 70 #[f.v, .int .i64 (f.syn : Int)]
  row : ∀ f ∈ L, w.ownsRow 0 5 1 f.v f.data.length (f.data.map (Value.int .u8))
  ap1 : ∀ f ∈ L, ∀ g ∈ L, f.blk = g.blk → f.name = g.name
  ap2 : ∀ f ∈ L, ∀ g ∈ L, ∀ x, f.v.ownBlock = some x → g.v.ownBlock = some x → f.name = g.name
  gd : G d
  gm : G m
  gf : ∀ f ∈ L, G f.blk
  gv : ∀ f ∈ L, ∀ x, f.v.ownBlock = some x → G x
  bd : ∀ g, G g → g < w.heap.size

section
variable {w w' : World} {d m : Nat} {L : List Fil} {cap arm : Int} {dead : Bool} {G : Nat → Prop}
theorem Lay.up (h : Lay w d m L cap arm dead G) : Up Fil.name L := up_of_canon (h.own.canon law)
theorem Lay.mp (h : Lay w d m L cap arm dead G) : ∃ es clock, w.heap[m]? = some (.map es clock) := by
  obtain ⟨es, clock, hb, _⟩ := h.own
  exact ⟨es, clock, hb⟩
theorem Lay.md (h : Lay w d m L cap arm dead G) : m ≠ d := by
  obtain ⟨es, clock, hb⟩ := h.mp
  intro e
  have := h.box
  unfold Wd.Bx at this
  rw [← e, hb] at this
  cases this
theorem Lay.mf (h : Lay w d m L cap arm dead G) {f : Fil} (hf : f ∈ L) : m ≠ f.blk := by
  obtain ⟨es, clock, hb⟩ := h.mp
  intro e
  have := h.fil f hf
  unfold Wd.Bx at this
  rw [← e, hb] at this
  cases this
theorem Lay.mv (h : Lay w d m L cap arm dead G) {f : Fil} (hf : f ∈ L) : f.v.ownBlock ≠ some m := by
  obtain ⟨es, clock, hb⟩ := h.mp
  intro e
  obtain ⟨_, _, cur, hc⟩ := Wd.own_lt (h.row f hf) e
  rw [hb] at hc
  cases hc
theorem Lay.df (h : Lay w d m L cap arm dead G) {f : Fil} (hf : f ∈ L) : d ≠ f.blk := by
  intro e
  have h1 := h.fil f hf
  have h2 := h.box
  unfold Wd.Bx at h1 h2
  rw [← e, h2] at h1
  simp at h1
theorem Lay.dv (h : Lay w d m L cap arm dead G) {f : Fil} (hf : f ∈ L) : f.v.ownBlock ≠ some d := by
  intro e
  obtain ⟨_, _, cur, hc⟩ := Wd.own_lt (h.row f hf) e
  have h2 := h.box
  unfold Wd.Bx at h2
  rw [h2] at hc
  simp at hc
theorem Lay.fv (h : Lay w d m L cap arm dead G) {f g : Fil} (hf : f ∈ L) (hg : g ∈ L) : g.v.ownBlock ≠ some f.blk := by
  intro e
  obtain ⟨_, _, cur, hc⟩ := Wd.own_lt (h.row g hg) e
  have h2 := h.fil f hf
  unfold Wd.Bx at h2
  rw [h2] at hc
  simp at hc
/-- Nothing of it turns. -/
theorem Lay.at_ (h : Lay w d m L cap arm dead G) (hs : w.heap.size ≤ w'.heap.size) (hk : ∀ g, G g → w'.heap[g]? = w.heap[g]?) : Lay w' d m L cap arm dead G :=
  ⟨h.box.at_ (hk d h.gd), Wd.map_keep h.own (hk m h.gm), fun f hf => (h.fil f hf).at_ (hk _ (h.gf f hf)), fun f hf => Wd.own_keep (h.row f hf) (fun x hx => hk x (h.gv f hf x hx)), h.ap1, h.ap2, h.gd, h.gm, h.gf, h.gv,
    fun g hg => Nat.lt_of_lt_of_le (h.bd g hg) hs⟩
theorem Lay.below (h : Lay w d m L cap arm dead G) (hb : Below w.heap.size w w') : Lay w' d m L cap arm dead G := h.at_ hb.size fun g hg => hb.block g (h.bd g hg)
theorem Lay.grow (h : Lay w d m L cap arm dead G) {G' : Nat → Prop} (hG : ∀ g, G g → G' g) (hb : ∀ g, G' g → g < w.heap.size) : Lay w d m L cap arm dead G' :=
  ⟨h.box, h.own, h.fil, h.row, h.ap1, h.ap2, hG _ h.gd, hG _ h.gm, fun f hf => hG _ (h.gf f hf), fun f hf x hx => hG _ (h.gv f hf x hx), hb⟩
/-- Another one turns. -/
theorem Lay.mv_other {H : Nat → Prop} (h : Lay w d m L cap arm dead G) (k : Wd.Mv H w w') (hn : ∀ g, G g → ¬ H g) : Lay w' d m L cap arm dead G := h.at_ k.size fun g hg => k.keep g (h.bd g hg) (hn g hg)
/-- Its record turns. -/
theorem Lay.turn_box (h : Lay w d m L cap arm dead G) {cap' arm' : Int} {dead' : Bool} (hb : Wd.Bx w' d 58 #[.map (some m), .int .i64 cap', .int .i64 arm', .bool dead']) (hg : w.grownBy w' (some d)) :
    Lay w' d m L cap' arm' dead' G :=
  ⟨hb, h.own.kept hg (by simpa using h.md), fun f hf => (h.fil f hf).grown hg (by simpa using (h.df hf).symm), fun f hf => Wd.own_keep (h.row f hf) (fun x hx => hg.block x (Wd.own_lt (h.row f hf) hx).1 (fun e => h.dv hf (by rw [hx]; exact e))),
    h.ap1, h.ap2, h.gd, h.gm, h.gf, h.gv, fun g hG => Nat.lt_of_lt_of_le (h.bd g hG) hg.size⟩
/-- One file turns. -/
theorem Lay.turn_file (h : Lay w d m L cap arm dead G) {f f' : Fil} (hf : f ∈ L) (hn : f'.name = f.name) (hb : f'.blk = f.blk) (hbox : Wd.Bx w' f.blk 70 #[f'.v, .int .i64 (f'.syn : Int)])
    (hrow : w'.ownsRow 0 5 1 f'.v f'.data.length (f'.data.map (Value.int .u8))) (hloc : ∀ x, f'.v.ownBlock = some x → f.v.ownBlock = some x ∨ w.heap.size ≤ x)
    (hk : ∀ g, g < w.heap.size → g ≠ f.blk → f.v.ownBlock ≠ some g → w'.heap[g]? = w.heap[g]?) (hs : w.heap.size ≤ w'.heap.size) :
    Lay w' d m (upd Fil.name f.name (fun _ => f') L) cap arm dead (Wd.Gr G w w') := by
  have hup := h.up
  have hmem : ∀ g ∈ upd Fil.name f.name (fun _ => f') L, (g = f' ∨ (g ∈ L ∧ g.name ≠ f.name)) := by
    intro g hg
    obtain ⟨x, hx, rfl⟩ := List.mem_map.1 hg
    by_cases e : x.name = f.name
    · rw [if_pos e]
      exact .inl rfl
    · rw [if_neg e]
      exact .inr ⟨hx, e⟩
  have hother : ∀ g ∈ L, g.name ≠ f.name → g.blk ≠ f.blk ∧ f.v.ownBlock ≠ some g.blk ∧ ∀ x, g.v.ownBlock = some x → x ≠ f.blk ∧ f.v.ownBlock ≠ some x := fun g hg hne =>
    ⟨fun e => hne (h.ap1 g hg f hf e), h.fv hg hf, fun x hx => ⟨fun e => h.fv hf hg (by rw [hx, e]), fun e => hne (h.ap2 g hg f hf x hx e)⟩⟩
  have hD : Dm (upd Fil.name f.name (fun _ => f') L) = Dm L := by
    unfold Dm upd
    rw [List.map_map]
    congr 1
    refine List.map_congr_left fun g hg => ?_
    simp only [Function.comp_apply]
    split
    · rename_i e
      obtain rfl := hup.one hg hf e
      simp [en, hn, hb]
    · rfl
  refine ⟨h.box.at_ (hk d (h.bd d h.gd) (h.df hf) (h.dv hf)), ?_, ?_, ?_, ?_, ?_, .inl h.gd, .inl h.gm, ?_, ?_, Wd.Gr.lt h.bd hs⟩
  · rw [hD, show (upd Fil.name f.name (fun _ => f') L).length = L.length by simp [upd]]
    exact Wd.map_keep h.own (hk m (h.bd m h.gm) (h.mf hf) (h.mv hf))
  · intro g hg
    rcases hmem g hg with rfl | ⟨hg, hne⟩
    · rw [hb]; exact hbox
    · exact (h.fil g hg).at_ (hk _ (h.fil g hg).lt (hother g hg hne).1 (hother g hg hne).2.1)
  · intro g hg
    rcases hmem g hg with rfl | ⟨hg, hne⟩
    · exact hrow
    · exact Wd.own_keep (h.row g hg) fun x hx => hk x (Wd.own_lt (h.row g hg) hx).1 ((hother g hg hne).2.2 x hx).1 ((hother g hg hne).2.2 x hx).2
  · intro g hg g' hg' e
    rcases hmem g hg with rfl | ⟨hg1, hne⟩ <;> rcases hmem g' hg' with rfl | ⟨hg2, hne'⟩
    · rfl
    · rw [hn]; exact h.ap1 f hf g' hg2 (by rw [← hb]; exact e)
    · rw [hn]; exact h.ap1 g hg1 f hf (by rw [← hb]; exact e)
    · exact h.ap1 g hg1 g' hg2 e
  · have key : ∀ g ∈ L, g.name ≠ f.name → ∀ x, g.v.ownBlock = some x → f'.v.ownBlock = some x → False := by
      intro g hg hne x h1 h2
      rcases hloc x h2 with q | q
      · exact ((hother g hg hne).2.2 x h1).2 q
      · have := (Wd.own_lt (h.row g hg) h1).1
        omega
    intro g hg g' hg' x e1 e2
    rcases hmem g hg with rfl | ⟨hg1, hne⟩ <;> rcases hmem g' hg' with rfl | ⟨hg2, hne'⟩
    · rfl
    · exact absurd (key g' hg2 hne' x e2 e1) id
    · exact absurd (key g hg1 hne x e1 e2) id
    · exact h.ap2 g hg1 g' hg2 x e1 e2
  · intro g hg
    rcases hmem g hg with rfl | ⟨hg, hne⟩
    · rw [hb]; exact .inl (h.gf f hf)
    · exact .inl (h.gf g hg)
  · intro g hg x hx
    rcases hmem g hg with rfl | ⟨hg, hne⟩
    · rcases hloc x hx with q | q
      · exact .inl (h.gv f hf x q)
      · exact .inr ⟨q, (Wd.own_lt hrow hx).1⟩
    · exact .inl (h.gv g hg x hx)
/-- A file comes that lies in new memory. -/
theorem Lay.put (h : Lay w d m L cap arm dead G) {f : Fil} (hn : fnd Fil.name f.name L = none) (hown : w'.ownsMap Try.prog 9 fp m (L.length + 1) ((Dm L).put (ky f.name) (.lit (.int .i64 (f.blk : Int)))))
    (hbox : Wd.Bx w' f.blk 70 #[f.v, .int .i64 (f.syn : Int)]) (hrow : w'.ownsRow 0 5 1 f.v f.data.length (f.data.map (Value.int .u8)))
    (h1 : w.heap.size ≤ f.blk) (h2 : ∀ x, f.v.ownBlock = some x → w.heap.size ≤ x) (hk : ∀ g, g < w.heap.size → g ≠ m → w'.heap[g]? = w.heap[g]?) (hs : w.heap.size ≤ w'.heap.size) :
    Lay w' d m (ins Fil.name f L) cap arm dead (Wd.Gr G w w') := by
  have hL : ∀ g ∈ L, g.blk < w.heap.size ∧ ∀ x, g.v.ownBlock = some x → x < w.heap.size := fun g hg => ⟨(h.fil g hg).lt, fun x hx => (Wd.own_lt (h.row g hg) hx).1⟩
  refine ⟨h.box.at_ (hk d (h.bd d h.gd) h.md.symm), ?_, ?_, ?_, ?_, ?_, .inl h.gd, .inl h.gm, ?_, ?_, Wd.Gr.lt h.bd hs⟩
  · rw [length_ins, ← put_Dm hn]
    exact hown
  · intro g hg
    rcases mem_ins.1 hg with rfl | hg
    · exact hbox
    · exact (h.fil g hg).at_ (hk _ (hL g hg).1 (h.mf hg).symm)
  · intro g hg
    rcases mem_ins.1 hg with rfl | hg
    · exact hrow
    · exact Wd.own_keep (h.row g hg) fun x hx => hk x ((hL g hg).2 x hx) (fun e => h.mv hg (by rw [hx, e]))
  · intro g hg g' hg' e
    rcases mem_ins.1 hg with rfl | hg1 <;> rcases mem_ins.1 hg' with rfl | hg2
    · rfl
    · have := (hL g' hg2).1; omega
    · have := (hL g hg1).1; omega
    · exact h.ap1 g hg1 g' hg2 e
  · intro g hg g' hg' x e1 e2
    rcases mem_ins.1 hg with rfl | hg1 <;> rcases mem_ins.1 hg' with rfl | hg2
    · rfl
    · have := (hL g' hg2).2 x e2; have := h2 x e1; omega
    · have := (hL g hg1).2 x e1; have := h2 x e2; omega
    · exact h.ap2 g hg1 g' hg2 x e1 e2
  · intro g hg
    rcases mem_ins.1 hg with rfl | hg
    · exact .inr ⟨h1, hbox.lt⟩
    · exact .inl (h.gf g hg)
  · intro g hg x hx
    rcases mem_ins.1 hg with rfl | hg
    · exact .inr ⟨h2 x hx, (Wd.own_lt hrow hx).1⟩
    · exact .inl (h.gv g hg x hx)
/-- A file goes. -/
theorem Lay.drop (h : Lay w d m L cap arm dead G) (s : ByteArray) (hown : w'.ownsMap Try.prog 9 fp m L.length ((Dm L).del (ky s))) (hg : w.grownBy w' (some m)) :
    Lay w' d m (del Fil.name s L) cap arm dead G := by
  have hmem : ∀ g ∈ del Fil.name s L, g ∈ L := fun g hg => (List.mem_filter.1 hg).1
  refine ⟨h.box.grown hg (by simpa using h.md.symm), ?_, fun f hf => (h.fil f (hmem f hf)).grown hg (by simpa using (h.mf (hmem f hf)).symm), fun f hf => Wd.own_keep (h.row f (hmem f hf)) (fun x hx => hg.block x (Wd.own_lt (h.row f (hmem f hf)) hx).1 (fun e => h.mv (hmem f hf) (by rw [hx]; exact e))),
    fun f hf g hg => h.ap1 f (hmem f hf) g (hmem g hg), fun f hf g hg => h.ap2 f (hmem f hf) g (hmem g hg), h.gd, h.gm, fun f hf => h.gf f (hmem f hf), fun f hf => h.gv f (hmem f hf), fun g hG => Nat.lt_of_lt_of_le (h.bd g hG) hg.size⟩
  have := Wd.map_tight hown
  rw [del_Dm, size_Dm] at this
  exact this
end
end Dk
end Go.Proofs.Ythangnhccbnfbaa
