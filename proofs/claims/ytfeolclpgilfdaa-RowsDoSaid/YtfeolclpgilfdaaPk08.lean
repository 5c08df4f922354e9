/- What is kept while other blocks turn: blocks known whole, rows, maps; a world where nothing but given blocks has turned. What the statements of layer 8 ask of a dictionary in memory: contracts of its methods, as one word; the chapter's example. A map keyed by values: a key's text, the numbers of a list of values as a map, what is found in it. A dictionary in memory: its record, its map, its row of values; what is kept while other blocks turn. What New, Len, Find, At of package dict do. -/
import Derived.Maps.AppendAt
import Derived.Maps.Own
import Derived.Maps.Views
import Derived.DeepKeys4
import Derived.Maps.OwnOps
import Derived.WalkKit
import Derived.WalkSpells
import Derived.Maps.OwnSet
import Derived.Test.YtfeolclpgilfdaaProg
import Derived.Test.YtfeolclpgilfdaaPk05
import Derived.Test.YtfeolclpgilfdaaPk06
import Derived.Test.YtfeolclpgilfdaaPk07
import Derived.Test.YtfeolclpgilfdaaPk02
import Derived.Test.YtfeolclpgilfdaaPk04
namespace Go.Proofs.Ytfeolclpgilfdaa
set_option maxRecDepth 20000
open Go.RowKit Go.Maps
namespace Wd
section
variable {w w' : World} {g : Nat} {t : TypeId} {cs : Array Value}
theorem Bx.set (h : Bx w g t cs) (j : Nat) (u : Value) : Bx (w.setCell ⟨g, j, none⟩ u) g t (cs.setIfInBounds j u) := by
  unfold Bx
  rw [heap_setCell_same w g j cs t _ h]
theorem Bx.other (h : Bx w g t cs) {a : Addr} (ha : g ≠ a.block) (u : Value) : Bx (w.setCell a u) g t cs := by
  unfold Bx
  rw [heap_setCell_other w a g u ha]
  exact h
theorem Bx.drew (h : Bx w g t cs) : Bx w.drew g t cs := h
theorem Bx.at_ (h : Bx w g t cs) (e : w'.heap[g]? = w.heap[g]?) : Bx w' g t cs := e.trans h
theorem own_keep {B : Nat} {e : TypeId} {size n : Nat} {v : Value} {xs : List Value} (h : w.ownsRow B e size v n xs) (hk : ∀ x, v.ownBlock = some x → w'.heap[x]? = w.heap[x]?) : w'.ownsRow B e size v n xs := by
  obtain ⟨h1, h2⟩ := h
  refine ⟨h1, ?_⟩
  rcases h2 with h2 | ⟨g, cap, cur, hv, hg, hh, r⟩
  · exact .inl h2
  · exact .inr ⟨g, cap, cur, hv, hg, by rw [hk g (by rw [hv]; rfl)]; exact hh, r⟩
theorem own_lt {B : Nat} {e : TypeId} {size n : Nat} {v : Value} {xs : List Value} (h : w.ownsRow B e size v n xs) {x : Nat} (hx : v.ownBlock = some x) : x < w.heap.size ∧ B ≤ x ∧ ∃ cur, w.heap[x]? = some (.cells cur e (0, 0)) := by
  rcases h.2 with ⟨rfl, _⟩ | ⟨g, cap, cur, rfl, hg, hh, r⟩
  · simp [Value.ownBlock] at hx
  · have : g = x := by simpa [Value.ownBlock] using hx
    subst this
    exact ⟨lt_of_block hh, hg, cur, hh⟩
/-- The cut 'v[:k]' of a row of the call's own. -/
theorem own_head {B : Nat} {e : TypeId} {A : Option Addr} {n c k : Nat} {xs : List Value} (h : w.ownsRow B e 1 (.slice A n c) n xs) (hk : k ≤ n) : w.ownsRow B e 1 (.slice A k c) k (xs.take k) := by
  obtain ⟨h1, h2⟩ := h
  refine ⟨by simp; omega, ?_⟩
  rcases h2 with ⟨h2, h3⟩ | ⟨g, cap, cur, hv, hg, hh, r1, r2, r3, r4⟩
  · subst h3
    obtain rfl : k = 0 := by omega
    exact .inl ⟨h2, rfl⟩
  · simp only [Value.slice.injEq, true_and] at hv
    obtain ⟨rfl, rfl⟩ := hv
    refine .inr ⟨g, _, cur, rfl, hg, hh, by omega, r2, r3, ?_⟩
    rw [← r4, List.take_take]
    congr 1
    omega
theorem map_keep {H : Type} {P : Program} {k : TypeId} {R : Value → Option (DataW H × List MemPlace)} {b n : Nat} {D : DataW H} (h : w.ownsMap P k R b n D) (e : w'.heap[b]? = w.heap[b]?) : w'.ownsMap P k R b n D := by
  obtain ⟨es, clock, hb, r⟩ := h
  exact ⟨es, clock, e.trans hb, r⟩
/-- As tight as may be. -/
theorem map_tight {H : Type} {P : Program} {k : TypeId} {R : Value → Option (DataW H × List MemPlace)} {b n : Nat} {D : DataW H} (h : w.ownsMap P k R b n D) : w.ownsMap P k R b (Maps.size D) D := by
  obtain ⟨es, clock, hb, F, hs, rfl⟩ := h
  exact ⟨es, clock, hb, F, by simp [Maps.size, length_sorted], rfl⟩
end

/-- Nothing but the blocks of G has turned, and there may be new ones. -/
structure Mv (G : Nat → Prop) (w w' : World) : Prop where
  os : w'.os = w.os
  tape : w'.tape = w.tape
  output : w'.output = w.output
  size : w.heap.size ≤ w'.heap.size
  keep : ∀ g, g < w.heap.size → ¬ G g → w'.heap[g]? = w.heap[g]?
/-- G, and what is new. -/
def Gr (G : Nat → Prop) (w w' : World) (g : Nat) : Prop := G g ∨ (w.heap.size ≤ g ∧ g < w'.heap.size)
section
variable {G : Nat → Prop} {w w' w'' : World} {B : Nat}
theorem Mv.refl (G : Nat → Prop) (w : World) : Mv G w w := ⟨rfl, rfl, rfl, Nat.le_refl _, fun _ _ _ => rfl⟩
theorem Mv.mono {G' : Nat → Prop} (h : Mv G w w') (hG : ∀ g, G g → G' g) : Mv G' w w' := ⟨h.os, h.tape, h.output, h.size, fun g hg hn => h.keep g hg (fun k => hn (hG g k))⟩
theorem Mv.trans (h : Mv G w w') (k : Mv (Gr G w w') w' w'') : Mv G w w'' :=
  ⟨k.os.trans h.os, k.tape.trans h.tape, k.output.trans h.output, Nat.le_trans h.size k.size, fun g hg hn =>
    (k.keep g (Nat.lt_of_lt_of_le hg h.size) (fun q => by rcases q with q | q; exact hn q; omega)).trans (h.keep g hg hn)⟩
theorem Mv.then (h : Mv G w w') (k : Mv G w' w'') : Mv G w w'' := h.trans (k.mono fun _ hg => .inl hg)
theorem Gr.trans (h : w.heap.size ≤ w'.heap.size) (k : w'.heap.size ≤ w''.heap.size) (g : Nat) : Gr (Gr G w w') w' w'' g ↔ Gr G w w'' g := by
  unfold Gr
  constructor
  · rintro ((q | q) | q)
    · exact .inl q
    · exact .inr (by omega)
    · exact .inr (by omega)
  · rintro (q | q)
    · exact .inl (.inl q)
    · by_cases e : g < w'.heap.size
      · exact .inl (.inr (by omega))
      · exact .inr (by omega)
theorem Gr.eq (h : w.heap.size ≤ w'.heap.size) (k : w'.heap.size ≤ w''.heap.size) : Gr (Gr G w w') w' w'' = Gr G w w'' := funext fun g => propext (Gr.trans h k g)
theorem Mv.of_below (h : Below w.heap.size w w') : Mv G w w' := ⟨h.os, h.tape, h.output, h.size, fun g hg _ => h.block g hg⟩
theorem Mv.of_grown {row : Option Nat} (h : w.grownBy w' row) (hr : ∀ g, row = some g → G g) : Mv G w w' :=
  ⟨h.os, h.tape, h.output, h.size, fun g hg hn => h.block g hg (fun e => hn (hr g e.symm))⟩
theorem Mv.below (h : Mv G w w') (hG : ∀ g, G g → B ≤ g) (hB : B ≤ w.heap.size) : Below B w w' :=
  ⟨h.os, h.tape, h.output, h.size, fun g hg => h.keep g (by omega) (fun k => by have := hG g k; omega)⟩
theorem Mv.alloc (h : Mv G w w') (o : Obj) : Mv G w (w'.alloc o) := h.then (Mv.of_grown (World.grownBy_alloc w' o none) (by simp))
theorem Mv.set (h : Mv G w w') {a : Addr} (ha : G a.block) (u : Value) : Mv G w (w'.setCell a u) :=
  h.then ⟨rfl, rfl, rfl, by simp [World.setCell], fun g hg hn => Below.heap_setCell _ _ _ _ (fun e => hn (e ▸ ha))⟩
theorem Mv.drew (h : Mv G w w') : Mv G w w'.drew := ⟨h.os, h.tape, h.output, h.size, h.keep⟩
theorem Gr.ge (hG : ∀ g, G g → B ≤ g) (hB : B ≤ w.heap.size) : ∀ g, Gr G w w' g → B ≤ g := by
  rintro g (q | q)
  · exact hG g q
  · omega
theorem Gr.lt (hG : ∀ g, G g → g < w.heap.size) (h : w.heap.size ≤ w'.heap.size) : ∀ g, Gr G w w' g → g < w'.heap.size := by
  rintro g (q | q)
  · exact Nat.lt_of_lt_of_le (hG g q) h
  · exact q.2
end
end Wd
end Go.Proofs.Ytfeolclpgilfdaa
namespace Go.Proofs.Ytfeolclpgilfdaa
set_option maxRecDepth 20000
open Go.RowKit
namespace Dx
open Va (Vl May ord null)
open Sc (tr tr_yes tr_no tr_iff)
open Dc
/-- A value as the machine holds it. -/
def ag (v : Vl) : Value := .agg #[.int .i64 v.kind, .int .i64 v.i, .string v.s, .bool v.b]
/-- Values whose numbers are the machine's, and whose texts are no longer than any. -/
def Okv (v : Vl) : Prop := Wd.V1 v ∧ v.s.size ≤ maxLen
variable {D : World → Nat → List Vl → Int → (Nat → Prop) → Prop}
end Dx
end Go.Proofs.Ytfeolclpgilfdaa
namespace Go.Proofs.Ytfeolclpgilfdaa
set_option maxRecDepth 20000
open Go.RowKit Go.Maps
namespace Dm
open Va (Vl)
open Dc (fnd fndF fnd_pos fnd_none fnd_app)
theorem laidOut : laidOutB Try.prog = true := by kernel_rfl
theorem wide : (match Try.prog.underlying 49 with | some (.array _ _) | some (.struct _) => true | _ => false) = true := by rw [Try.underlying49]
theorem law : Keyed Try.prog 49 := Keyed.of_law (deep_law_laid laidOut (m := 2) (by omega) (of_decide_eq_true (by kernel_rfl)) (by kernel_rfl) wide)
/-- A key's text. -/
def keyL (v : Vl) : List Lit := [.int .i64 v.kind, .int .i64 v.i, .string v.s.data.toList, .bool v.b]
def keyV (v : Vl) : Lit := .string (keyBytes (keyL v))
theorem keyLits_v {P : Program} {t : TypeId} {f0 f1 f2 f3 : Field} (T : Wd.VlT P t f0 f1 f2 f3) (hn : (#[f0, f1, f2, f3] : Array Field).all (·.name != "_") = true) (d : Nat) {v : Vl} (h1 : Wd.V1 v) (hs : v.s.size ≤ maxLen) :
    P.keyLits (d + 2) t [.int .i64 v.kind, .int .i64 v.i, .string v.s, .bool v.b] = some (keyL v) := by
  have a0 := h1.w0
  have a1 := h1.w1
  simp only [Program.keyLits, T.u, T.c]
  rw [if_pos ⟨rfl, hn⟩]
  simp [T.o0, T.o1, T.o2, T.o3, T.c0, T.c1, T.c2, T.c3, T.u0, T.u1, T.u2, T.u3, a0, a1, hs, keyL]
theorem names_ok : (match Try.prog.underlying 49 with | some (.struct fs) => fs.all (·.name != "_") | _ => false) = true := by kernel_rfl
theorem one_le : 1 ≤ Try.prog.types.size := of_decide_eq_true (by kernel_rfl)
theorem key_of {v : Vl} (h1 : Wd.V1 v) (hs : v.s.size ≤ maxLen) : keyOf Try.prog 49 (.agg #[.int .i64 v.kind, .int .i64 v.i, .string v.s, .bool v.b]) = some (keyV v) := by
  obtain ⟨f0, f1, f2, f3, T⟩ := Wd.vlT
  have hn := names_ok
  rw [T.u] at hn
  have hk : Try.prog.keyType 49 = true := by kernel_rfl
  have hf : (Value.agg #[.int .i64 v.kind, .int .i64 v.i, .string v.s, .bool v.b]).formed Try.prog 49 = true := by simp [Value.formed, T.u, T.c]
  have hl := keyLits_v T hn (Try.prog.types.size - 1) h1 hs
  rw [show Try.prog.types.size - 1 + 2 = Try.prog.types.size + 1 by have := one_le; omega] at hl
  unfold keyOf
  rw [T.u]
  simp only [hk, hf, Bool.and_self, if_true]
  show (Try.prog.keyLits _ _ [.int .i64 v.kind, .int .i64 v.i, .string v.s, .bool v.b]).map _ = _
  rw [hl]
  rfl
theorem keyV_inj {u v : Vl} (hu : Wd.V1 u) (su : u.s.size ≤ maxLen) (hv : Wd.V1 v) (sv : v.s.size ≤ maxLen) (h : keyV u = keyV v) : u = v := by
  have a := key_of hu su
  have b := key_of hv sv
  rw [← h] at b
  have e := law.inj a b
  obtain ⟨k, i, s, t⟩ := u
  obtain ⟨k', i', s', t'⟩ := v
  simp only [Value.agg.injEq, Array.mk.injEq, List.cons.injEq, Value.int.injEq, Value.string.injEq, Value.bool.injEq, true_and, and_true] at e
  obtain ⟨rfl, rfl, rfl, rfl⟩ := e
  rfl
theorem keyV_key (v : Vl) : WideAt.IsKeyLit (keyV v) := by simp [keyV, WideAt.IsKeyLit]
/-- Values whose numbers are the machine's. -/
def Okk (l : List Vl) : Prop := ∀ x ∈ l, Wd.V1 x ∧ x.s.size ≤ maxLen
/-- The numbers of a list of values, as a map. -/
def ddF : List Vl → Nat → DataW Unit → DataW Unit
  | [], _, D => D
  | v :: l, i, D => ddF l (i + 1) (D.put (keyV v) (.lit (.int .i64 (i : Int))))
def Dd (l : List Vl) : DataW Unit := ddF l 0 (.map [])
theorem ddF_app : ∀ (l : List Vl) (v : Vl) (i : Nat) (D : DataW Unit), ddF (l ++ [v]) i D = (ddF l i D).put (keyV v) (.lit (.int .i64 ((i + l.length : Nat) : Int)))
  | [], v, i, D => by simp [ddF]
  | a :: l, v, i, D => by
    show ddF (l ++ [v]) (i + 1) _ = (ddF l (i + 1) _).put _ _
    rw [ddF_app l v (i + 1), List.length_cons, show i + 1 + l.length = i + (l.length + 1) by omega]
theorem Dd_app (l : List Vl) (v : Vl) : Dd (l ++ [v]) = (Dd l).put (keyV v) (.lit (.int .i64 (l.length : Int))) := by
  unfold Dd
  rw [ddF_app, Nat.zero_add]
theorem ddF_at {v : Vl} (hv : Wd.V1 v ∧ v.s.size ≤ maxLen) (z : DataW Unit) : ∀ (l : List Vl) (i : Nat) (D : DataW Unit), IsMap D → Okk l → l.Nodup → (ddF l i D).atKey (keyV v) z = if v ∈ l then .lit (.int .i64 (fndF l v (i : Int))) else D.atKey (keyV v) z
  | [], i, D, _, _, _ => by simp [ddF]
  | a :: l, i, D, hD, hl, hn => by
    rw [List.nodup_cons] at hn
    have ih := ddF_at hv z l (i + 1) (D.put (keyV a) (.lit (.int .i64 (i : Int)))) (hD.put _ _) (fun x hx => hl x (by simp [hx])) hn.2
    show (ddF l (i + 1) _).atKey _ _ = _
    rw [ih]
    by_cases e : a = v
    · subst e
      rw [if_neg hn.1, if_pos (by simp), atKey_put_same hD (keyV_key a), fndF, if_pos rfl]
    · have hne : keyV v ≠ keyV a := fun q => e (keyV_inj (hl a (by simp)).1 (hl a (by simp)).2 hv.1 hv.2 q.symm)
      rw [fndF, if_neg e, atKey_put_other hne]
      by_cases q : v ∈ l
      · rw [if_pos q, if_pos (by simp [q])]
        rfl
      · rw [if_neg q, if_neg (by simp [q]; exact fun h => e h.symm)]
theorem ddF_has {v : Vl} (hv : Wd.V1 v ∧ v.s.size ≤ maxLen) : ∀ (l : List Vl) (i : Nat) (D : DataW Unit), IsMap D → Okk l → has (ddF l i D) (keyV v) = (decide (v ∈ l) || has D (keyV v))
  | [], i, D, _, _ => by simp [ddF]
  | a :: l, i, D, hD, hl => by
    have ih := ddF_has hv l (i + 1) (D.put (keyV a) (.lit (.int .i64 (i : Int)))) (hD.put _ _) (fun x hx => hl x (by simp [hx]))
    show has (ddF l (i + 1) _) _ = _
    rw [ih]
    by_cases e : a = v
    · subst e
      rw [has_put_same hD (keyV_key a)]
      simp
    · have hne : keyV v ≠ keyV a := fun q => e (keyV_inj (hl a (by simp)).1 (hl a (by simp)).2 hv.1 hv.2 q.symm)
      rw [has_put_other hne]
      simp [show ¬ v = a from fun h => e h.symm]
/-- Is a value found, and with which number? -/
theorem Dd_has {l : List Vl} (hl : Okk l) {v : Vl} (hv : Wd.V1 v ∧ v.s.size ≤ maxLen) : has (Dd l) (keyV v) = decide (v ∈ l) := by
  unfold Dd
  rw [ddF_has hv l 0 _ ⟨[], rfl⟩ hl]
  have : has (DataW.map [] : DataW Unit) (keyV v) = false := rfl
  rw [this, Bool.or_false]
theorem Dd_at {l : List Vl} (hl : Okk l) (hn : l.Nodup) {v : Vl} (hv : Wd.V1 v ∧ v.s.size ≤ maxLen) (z : DataW Unit) : (Dd l).atKey (keyV v) z = if v ∈ l then .lit (.int .i64 (fnd l v)) else z := by
  unfold Dd
  rw [ddF_at hv z l 0 _ ⟨[], rfl⟩ hl hn]
  rfl
theorem Dd_map (l : List Vl) : IsMap (Dd l) := by
  have : ∀ (l : List Vl) (i : Nat) (D : DataW Unit), IsMap D → IsMap (ddF l i D) := by
    intro l
    induction l with
    | nil => intro i D h; exact h
    | cons a l ih => intro i D h; exact ih _ _ (h.put _ _)
  exact this l 0 _ ⟨[], rfl⟩
end Dm
end Go.Proofs.Ytfeolclpgilfdaa
namespace Go.Proofs.Ytfeolclpgilfdaa
set_option maxRecDepth 20000
open Go.RowKit Go.Maps
namespace Dt
open Va (Vl May ord null)
open Dc Dx
/-- A dictionary in memory: record d, map m, slice v, list L; all of it lies in blocks of G. -/
structure Lay (w : World) (d m : Nat) (v : Value) (L : List Vl) (k : Int) (G : Nat → Prop) : Prop where
  box : Wd.Bx w d 85 #[.int .i64 (lim k), .map (some m), v]
  own : w.ownsMap Try.prog 49 (plainElem Try.prog 3) m L.length (Dm.Dd L)
  row : w.ownsRow 0 49 4 v L.length (Wd.flatV L)
  gd : G d
  gm : G m
  gv : ∀ x, v.ownBlock = some x → G x
  bd : ∀ g, G g → g < w.heap.size
section
variable {w w' : World} {d m : Nat} {v : Value} {L : List Vl} {k : Int} {G : Nat → Prop}
theorem Lay.mp (h : Lay w d m v L k G) : ∃ es clock, w.heap[m]? = some (.map es clock) := by
  obtain ⟨es, clock, hb, _⟩ := h.own
  exact ⟨es, clock, hb⟩
theorem Lay.md (h : Lay w d m v L k G) : m ≠ d := by
  obtain ⟨es, clock, hb⟩ := h.mp
  intro e
  have := h.box
  unfold Wd.Bx at this
  rw [← e, hb] at this
  cases this
theorem Lay.mv (h : Lay w d m v L k G) : v.ownBlock ≠ some m := by
  obtain ⟨es, clock, hb⟩ := h.mp
  intro e
  obtain ⟨_, _, cur, hc⟩ := Wd.own_lt h.row e
  rw [hb] at hc
  cases hc
theorem Lay.dv (h : Lay w d m v L k G) : v.ownBlock ≠ some d := by
  intro e
  obtain ⟨_, _, cur, hc⟩ := Wd.own_lt h.row e
  have h2 := h.box
  unfold Wd.Bx at h2
  rw [h2] at hc
  simp at hc
/-- Nothing of it turns. -/
theorem Lay.at_ (h : Lay w d m v L k G) (hs : w.heap.size ≤ w'.heap.size) (hk : ∀ g, G g → w'.heap[g]? = w.heap[g]?) : Lay w' d m v L k G :=
  ⟨h.box.at_ (hk d h.gd), Wd.map_keep h.own (hk m h.gm), Wd.own_keep h.row (fun x hx => hk x (h.gv x hx)), h.gd, h.gm, h.gv, fun g hg => Nat.lt_of_lt_of_le (h.bd g hg) hs⟩
theorem Lay.below (h : Lay w d m v L k G) (hb : Below w.heap.size w w') : Lay w' d m v L k G := h.at_ hb.size fun g hg => hb.block g (h.bd g hg)
/-- A value that was not there comes. -/
theorem Lay.more {w1 w2 : World} {v' : Value} (h : Lay w d m v L k G) (x : Vl) (hm : w1.ownsMap Try.prog 49 (plainElem Try.prog 3) m (L.length + 1) ((Dm.Dd L).put (Dm.keyV x) (.lit (.int .i64 (L.length : Int)))))
    (g1 : w.grownBy w1 (some m)) (hr : w2.ownsRow 0 49 4 v' (L ++ [x]).length (Wd.flatV (L ++ [x]))) (g2 : w1.grownBy w2 v.ownBlock) (hl : v'.ownBlock = v.ownBlock ∨ v'.ownBlock = some w1.heap.size) :
    Lay (w2.setCell ⟨d, 2, none⟩ v') d m v' (L ++ [x]) k (Wd.Gr G w (w2.setCell ⟨d, 2, none⟩ v')) ∧ Wd.Mv G w (w2.setCell ⟨d, 2, none⟩ v') := by
  have z1 := g1.size
  have z2 := g2.size
  have hs : (w2.setCell ⟨d, 2, none⟩ v').heap.size = w2.heap.size := by simp [World.setCell]
  have dm : m ≠ d := h.md
  have dlt := h.box.lt
  have mlt := h.own.lt
  have b1 : Wd.Bx w1 d 85 #[.int .i64 (lim k), .map (some m), v] := h.box.at_ (g1.block d dlt (by simpa using dm.symm))
  have b2 : Wd.Bx w2 d 85 #[.int .i64 (lim k), .map (some m), v] := b1.at_ (g2.block d (by omega) (fun e => h.dv e.symm))
  have m2 := hm.kept g2 (fun e => h.mv e.symm)
  have hvd : ∀ y, v'.ownBlock = some y → y ≠ d := by
    intro y hy e
    rcases hl with q | q
    · exact h.dv (by rw [← q, hy, e])
    · rw [hy] at q
      have := Option.some.inj q
      omega
  refine ⟨⟨?_, ?_, ?_, .inl h.gd, .inl h.gm, ?_, ?_⟩, ?_⟩
  · have := b2.set 2 v'
    simpa using this
  · rw [Dm.Dd_app, List.length_append, List.length_singleton]
    exact Wd.map_keep m2 (Below.heap_setCell _ _ _ _ (by simpa using dm))
  · exact Wd.own_keep hr fun y hy => Below.heap_setCell _ _ _ _ (hvd y hy)
  · intro y hy
    rcases hl with q | q
    · exact .inl (h.gv y (by rw [← q, hy]))
    · rw [hy] at q
      have := Option.some.inj q
      exact .inr ⟨by omega, by rw [hs]; exact (Wd.own_lt hr hy).1⟩
  · exact Wd.Gr.lt h.bd (by rw [hs]; omega)
  · have k1 : Wd.Mv G w w1 := Wd.Mv.of_grown g1 (fun g hg => by cases hg; exact h.gm)
    have k2 : Wd.Mv G w1 w2 := Wd.Mv.of_grown g2 (fun g hg => h.gv g hg)
    exact (k1.then k2).set h.gd _
/-- A new one. -/
theorem Lay.new {w1 : World} (hb : Wd.Bx w1 d 85 #[.int .i64 (lim k), .map (some m), .slice none 0 0]) (ho : w1.ownsMap Try.prog 49 (plainElem Try.prog 3) m 0 (.map [] : DataW Unit)) :
    Lay w1 d m (.slice none 0 0) [] k (fun g => g = d ∨ g = m) :=
  ⟨hb, ho, World.ownsRow_nil _ _ _ _, .inl rfl, .inr rfl, fun x hx => by simp [Value.ownBlock] at hx, fun g hg => by
    rcases hg with rfl | rfl
    · exact hb.lt
    · exact ho.lt⟩
end
/-- A dictionary of the list L, made for k values, in blocks of G alone. -/
def D (w : World) (d : Nat) (L : List Vl) (k : Int) (G : Nat → Prop) : Prop := ∃ m v, Lay w d m v L k G
/-- Its row as a slice of values. -/
theorem Lay.vs {w : World} {d m : Nat} {v : Value} {L : List Vl} {k : Int} {G : Nat → Prop} (h : Lay w d m v L k G) (ho : ∀ x ∈ L, Okv x) : ∃ A n c, v = .slice A n c ∧ Wd.Vs w A n c L :=
  Wd.Vs.of_own h.row fun j hj => (ho _ (by rw [List.getD_eq_getElem?_getD, List.getElem?_eq_getElem hj]; exact List.getElem_mem hj)).1
end Dt
end Go.Proofs.Ytfeolclpgilfdaa
namespace Go.Proofs.Ytfeolclpgilfdaa
set_option maxRecDepth 20000
open Go.RowKit Go.Maps
namespace Dt
open Va (Vl May ord null)
open Dc Dx
/-- A pointer to block b. -/
abbrev pt (b : Nat) : Value := .pointer (some ⟨b, 0, none⟩)
theorem own_shape {w : World} {B : Nat} {e : TypeId} {size : Nat} {v : Value} {n : Nat} {xs : List Value} (h : w.ownsRow B e size v n xs) : ∃ A c, v = .slice A n c := by
  rcases h.2 with ⟨rfl, h0⟩ | ⟨g, cap, cur, rfl, _⟩
  · exact ⟨none, 0, by rw [h0]⟩
  · exact ⟨_, _, rfl⟩
theorem zeroI (w : World) : (zeroValue 3).run Try.prog w = .ok (.int .i64 0) w := by kernel_rfl
theorem res_cell2 {fn : Func} {p u : Tmp} {ty : TypeId} (h : fn.results = #[.cell p ty, .tmp u]) (tmps : Array Value) (P : Program) (w : World) :
    (results fn tmps).run P w = ((asAddr (tmps.getD p undef)).run P w).andThen fun a w₁ => ((loadVar ty a).run P w₁).andThen fun x w₂ => .ok (.tuple #[x, tmps.getD u undef]) w₂ := by
  simp only [results, h]
  simp [Sem.run_bind, Result.andThen]
section
variable {w : World} {d m : Nat} {v : Value} {L : List Vl} {k : Int} {G : Nat → Prop}
theorem new_any (k : Int) (w : World) : Calls Try.prog 30 #[.int .i64 k] w fun e w' => ∃ d G, e = .returned (pt d) ∧ D w' d [] k G ∧ Below w.heap.size w w' ∧ ∀ g, G g → w.heap.size ≤ g := by
  have hmm := @run_makeMap Try.prog
  have key : ∀ l : Int, l = lim k → Calls Try.prog 30 #[.int .i64 k] w fun e w' => e = .returned (pt (w.heap.size + 1)) ∧ w' = (w.alloc (.map #[] 0)).alloc (.cells #[.int .i64 l, .map (some w.heap.size), .slice none 0 0] 85) := by
    intro l hl
    have Hl := Lib.hid hl
    clear hl
    go_enter Try.func30, Try.ntmps30
    go_wp2_with fail
    case inl =>
      go_ret
      rw [show l = 4096 by rw [Hl.out]; unfold lim; split <;> (try split) <;> omega]
      exact ⟨rfl, rfl⟩
    case inr.inl =>
      go_ret
      rw [show l = k by rw [Hl.out]; unfold lim; split <;> (try split) <;> omega]
      exact ⟨rfl, rfl⟩
    case inr.inr =>
      go_ret
      rw [show l = 0 by rw [Hl.out]; unfold lim; split <;> (try split) <;> omega]
      exact ⟨rfl, rfl⟩
  refine (key _ rfl).mono ?_
  rintro e w' ⟨rfl, rfl⟩
  have hb1 := (Below.refl w.heap.size w).alloc (Nat.le_refl _) (.map #[] 0)
  refine ⟨w.heap.size + 1, _, rfl, ⟨w.heap.size, .slice none 0 0, Lay.new ?_ ?_⟩, hb1.alloc hb1.size _, ?_⟩
  · have := Wd.Bx.new (w.alloc (.map #[] 0)) 85 #[.int .i64 (lim k), .map (some w.heap.size), .slice none 0 0]
    simpa using this
  · exact (World.ownsMap_made w Try.prog 49 _).alloc _
  · rintro g (rfl | rfl) <;> omega
theorem len_any (h : Lay w d m v L k G) : Calls Try.prog 44 #[pt d] w fun e w' => e = .returned (.int .i64 (L.length : Int)) ∧ w' = w := by
  obtain ⟨A, c, rfl⟩ := own_shape h.row
  have c2 := h.box.cell 2
  simp at c2
  go_enter Try.func44, Try.ntmps44
  go_wp2_with fail
  go_ret
  exact ⟨rfl, rfl⟩
set_option maxHeartbeats 1000000 in
theorem find_any (x : Vl) (h : Lay w d m v L k G) (hd : Dis L k) (ho : ∀ y ∈ L, Okv y) (hx : Okv x) :
    Calls Try.prog 63 #[pt d, .agg #[.int .i64 x.kind, .int .i64 x.i, .string x.s, .bool x.b]] w fun e w' => e = .returned (.tuple #[.int .i64 (if x ∈ L then fnd L x else 0), .bool (decide (x ∈ L))]) ∧ Below w.heap.size w w' := by
  have hb0 := (Below.refl w.heap.size w).alloc (Nat.le_refl _) (.cells #[.int .i64 x.kind, .int .i64 x.i, .string x.s, .bool x.b] 49)
  have x0 : Vc.Vb (w.alloc (.cells #[.int .i64 x.kind, .int .i64 x.i, .string x.s, .bool x.b] 49)) w.heap.size x.kind x.i x.s x.b := Wd.Bx.new w _ _
  have h1 := h.below hb0
  have c1 := h1.box.cell 1
  simp at c1
  have hrun : (Instr.lookup 83 (.map (some m)) (.agg #[.int .i64 x.kind, .int .i64 x.i, .string x.s, .bool x.b]) true).run Try.prog (w.alloc (.cells #[.int .i64 x.kind, .int .i64 x.i, .string x.s, .bool x.b] 49)).drew = .ok (.tuple #[.int .i64 (if x ∈ L then fnd L x else 0), .bool (decide (x ∈ L))]) (w.alloc (.cells #[.int .i64 x.kind, .int .i64 x.i, .string x.s, .bool x.b] 49)).drew := by
    obtain ⟨v', ps, hr, hv⟩ := h1.own.drew.look_ok Dm.law Try.underlying83 (zeroI _) (plainElem_int Try.underlying3 (by decide)) (Dm.key_of hx.1 hx.2)
    obtain ⟨c, rfl, hc, _⟩ := plainElem_int_inv Try.underlying3 hv
    have hc1 := congrArg Prod.fst hc
    simp only [] at hc1
    rw [Dm.Dd_at (fun y hy => ho y hy) hd.nd hx] at hc1
    rw [hr, Dm.Dd_has (fun y hy => ho y hy) hx]
    have : c = if x ∈ L then fnd L x else 0 := by
      by_cases q : x ∈ L
      · rw [if_pos q] at hc1 ⊢
        cases hc1
        rfl
      · rw [if_neg q] at hc1 ⊢
        cases hc1
        rfl
    rw [this]
  obtain ⟨N, hN⟩ : ∃ N, N = if x ∈ L then fnd L x else 0 := ⟨_, rfl⟩
  obtain ⟨B, hB⟩ : ∃ B, B = decide (x ∈ L) := ⟨_, rfl⟩
  rw [← hN, ← hB] at hrun ⊢
  clear hN hB h h1 hd ho hx
  go_enter Try.func63, Try.ntmps63
  go_wp2_with fail
  generalize w.alloc (.cells #[.int .i64 x.kind, .int .i64 x.i, .string x.s, .bool x.b] 49) = wa at *
  obtain ⟨⟨y0, y1, y2, y3⟩, -⟩ := Vc.four x0
  go_region
  all_goals (
    go_wp2_with fail
    go_ret2
    exact ⟨rfl, hb0.drew⟩)
set_option maxHeartbeats 1000000 in
theorem at_any (i : Int) (h : Lay w d m v L k G) (ho : ∀ y ∈ L, Okv y) :
    Calls Try.prog 54 #[pt d, .int .i64 i] w fun e w' => e = .returned (.tuple #[ag (if 0 ≤ i ∧ i < L.length then L.getD i.toNat default else null), .bool (decide (0 ≤ i ∧ i < L.length))]) ∧ Below w.heap.size w w' := by
  have hb0 := (Below.refl w.heap.size w).alloc (Nat.le_refl _) (.cells #[.int .i64 0, .int .i64 0, .string ⟨#[]⟩, .bool false] 49)
  have x0 : Vc.Vb (w.alloc (.cells #[.int .i64 0, .int .i64 0, .string ⟨#[]⟩, .bool false] 49)) w.heap.size 0 0 ⟨#[]⟩ false := Wd.Bx.new w _ _
  have h1 := h.below hb0
  obtain ⟨A, n, c, hv, hV⟩ := h1.vs ho
  have c2 := h1.box.cell 2
  simp at c2
  rw [hv] at c2
  have C := Lib.hid (len_any h1)
  have Hm := Lib.hid hV.len
  clear hv h h1
  by_cases h0 : i < 0
  · have e1 : ¬ (0 ≤ i ∧ i < L.length) := by omega
    rw [if_neg e1, decide_eq_false e1]
    clear e1
    go_enter Try.func54, Try.ntmps54
    go_wp2_with fail
    (try simp only [Exit.inBlock, Exit.then])
    refine bodyPost_ret (v := .tuple #[.agg #[.int .i64 0, .int .i64 0, .string ⟨#[]⟩, .bool false], .bool false]) ?_ rfl ⟨rfl, ?_⟩
    · rw [res_cell2 rfl]; go_simp
    · first | exact hb0 | exact (Below.refl _ _).alloc (Nat.le_refl _) _
  obtain ⟨p, rfl⟩ : ∃ p : Nat, i = (p : Int) := ⟨i.toNat, by omega⟩
  by_cases hp : p < n
  · have e1 : 0 ≤ (p : Int) ∧ (p : Int) < L.length := by have := Hm.out; omega
    have hpl : p < L.length := by omega
    obtain ⟨e, f, hR, heB, d0, d1, d2, d3, _⟩ := hV.cells (j := p) hpl rfl
    subst hR
    rw [if_pos e1, decide_eq_true e1, Int.toNat_natCast]
    generalize L.getD p default = x at *
    have hcap := hV.cap
    clear e1 hV
    rw [← Hm.out] at C hpl
    have hpI : (p : Int) < (n : Int) := by omega
    go_enter Try.func54, Try.ntmps54
    go_wp2_with fail
    refine C.out.mono ?_
    rintro e' w' ⟨rfl, rfl⟩
    go_wp2_with fail
    (try simp only [Exit.inBlock, Exit.then])
    refine bodyPost_ret (v := .tuple #[.agg #[.int .i64 x.kind, .int .i64 x.i, .string x.s, .bool x.b], .bool true]) ?_ rfl ⟨rfl, ?_⟩
    · rw [res_cell2 rfl]; go_simp
    · first | exact hb0 | exact (Below.refl _ _).alloc (Nat.le_refl _) _
  · have e1 : ¬ (0 ≤ (p : Int) ∧ (p : Int) < L.length) := by have := Hm.out; omega
    rw [if_neg e1, decide_eq_false e1]
    rw [← Hm.out] at C
    have hpI : ¬ (p : Int) < (n : Int) := by omega
    clear e1
    go_enter Try.func54, Try.ntmps54
    go_wp2_with fail
    refine C.out.mono ?_
    rintro e' w' ⟨rfl, rfl⟩
    go_wp2_with fail
    (try simp only [Exit.inBlock, Exit.then])
    refine bodyPost_ret (v := .tuple #[.agg #[.int .i64 0, .int .i64 0, .string ⟨#[]⟩, .bool false], .bool false]) ?_ rfl ⟨rfl, ?_⟩
    · rw [res_cell2 rfl]; go_simp
    · first | exact hb0 | exact (Below.refl _ _).alloc (Nat.le_refl _) _
end
end Dt
end Go.Proofs.Ytfeolclpgilfdaa
