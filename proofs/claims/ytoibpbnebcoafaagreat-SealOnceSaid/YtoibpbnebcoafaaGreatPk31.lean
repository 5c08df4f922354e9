/- A map keyed by values: a key's text, the numbers of a list of values as a map, what is found in it. A dictionary in memory: its record, its map, its row of values; what is kept while other blocks turn. What New, Len, Find, At of package dict do. -/
import Derived.DeepKeys4
import Derived.Maps.Own
import Derived.Maps.OwnOps
import Derived.Maps.Views
import Derived.WalkKit
import Derived.WalkSpells
import Derived.Maps.OwnSet
import Derived.Test.YtoibpbnebcoafaaGreatPk06
import Derived.Test.YtoibpbnebcoafaaGreatPk23
namespace Go.Proofs.YtoibpbnebcoafaaGreat
set_option maxRecDepth 20000
open Go.RowKit Go.Maps
namespace Dm
open Va (Vl)
open Dc (fnd fndF fnd_pos fnd_none fnd_app)
theorem laidOut : laidOutB Tryz.prog = true := by kernel_rfl
theorem wide : (match Tryz.prog.underlying 56 with | some (.array _ _) | some (.struct _) => true | _ => false) = true := by rw [Tryz.underlying56]
theorem law : Keyed Tryz.prog 56 := Keyed.of_law (deep_law_laid laidOut (m := 2) (by omega) (of_decide_eq_true (by kernel_rfl)) (by kernel_rfl) wide)
/-- A key's text. -/
def keyL (v : Vl) : List Lit := [.int .i64 v.kind, .int .i64 v.i, .string v.s.data.toList, .bool v.b]
def keyV (v : Vl) : Lit := .string (keyBytes (keyL v))
theorem keyLits_v {P : Program} {t : TypeId} {f0 f1 f2 f3 : Field} (T : Wd.VlT P t f0 f1 f2 f3) (hn : (#[f0, f1, f2, f3] : Array Field).all (·.name != "_") = true) (d : Nat) {v : Vl} (h1 : Wd.V1 v) (hs : v.s.size ≤ maxLen) :
    P.keyLits (d + 2) t [.int .i64 v.kind, .int .i64 v.i, .string v.s, .bool v.b] = some (keyL v) := by
  have a0 := h1.w0
  have a1 := h1.w1
  simp only [Program.keyLits, T.u, T.c]
  rw [if_pos ⟨rfl, hn⟩]
  simp [T.o0, T.o1, T.o2, T.o3, T.c0, T.c1, T.c2, T.c3, T.u0, T.u1, T.u2, T.u3, a0, a1, hs, keyL]
theorem names_ok : (match Tryz.prog.underlying 56 with | some (.struct fs) => fs.all (·.name != "_") | _ => false) = true := by kernel_rfl
theorem one_le : 1 ≤ Tryz.prog.types.size := of_decide_eq_true (by kernel_rfl)
theorem key_of {v : Vl} (h1 : Wd.V1 v) (hs : v.s.size ≤ maxLen) : keyOf Tryz.prog 56 (.agg #[.int .i64 v.kind, .int .i64 v.i, .string v.s, .bool v.b]) = some (keyV v) := by
  obtain ⟨f0, f1, f2, f3, T⟩ := Wd.vlT
  have hn := names_ok
  rw [T.u] at hn
  have hk : Tryz.prog.keyType 56 = true := by kernel_rfl
  have hf : (Value.agg #[.int .i64 v.kind, .int .i64 v.i, .string v.s, .bool v.b]).formed Tryz.prog 56 = true := by simp [Value.formed, T.u, T.c]
  have hl := keyLits_v T hn (Tryz.prog.types.size - 1) h1 hs
  rw [show Tryz.prog.types.size - 1 + 2 = Tryz.prog.types.size + 1 by have := one_le; omega] at hl
  unfold keyOf
  rw [T.u]
  simp only [hk, hf, Bool.and_self, if_true]
  show (Tryz.prog.keyLits _ _ [.int .i64 v.kind, .int .i64 v.i, .string v.s, .bool v.b]).map _ = _
  rw [hl]
  rfl
theorem keyV_inj {u v : Vl} (hu : Wd.V1 u) (su : u.s.size ≤ maxLen) (hv : Wd.V1 v) (sv : v.s.size ≤ maxLen) (h : keyV u = keyV v) : u = v := by
  have a := key_of hu su
  have b := key_of hv sv
  rw [← h] at b
  have e := law.inj a b
  obtain ⟨k, i, s, t⟩ := u
  obtain ⟨k', i', s', t'⟩ := v
  simp only [Value.agg.injEq, Array.mk.injEq, List.cons.injEq, Value.int.injEq, Value.string.injEq, Value.bool.injEq, true_and, and_true] at e
  obtain ⟨rfl, rfl, rfl, rfl⟩ := e
  rfl
theorem keyV_key (v : Vl) : WideAt.IsKeyLit (keyV v) := by simp [keyV, WideAt.IsKeyLit]
/-- Values whose numbers are the machine's. -/
def Okk (l : List Vl) : Prop := ∀ x ∈ l, Wd.V1 x ∧ x.s.size ≤ maxLen
/-- The numbers of a list of values, as a map. -/
def ddF : List Vl → Nat → DataW Unit → DataW Unit
  | [], _, D => D
  | v :: l, i, D => ddF l (i + 1) (D.put (keyV v) (.lit (.int .i64 (i : Int))))
def Dd (l : List Vl) : DataW Unit := ddF l 0 (.map [])
theorem ddF_app : ∀ (l : List Vl) (v : Vl) (i : Nat) (D : DataW Unit), ddF (l ++ [v]) i D = (ddF l i D).put (keyV v) (.lit (.int .i64 ((i + l.length : Nat) : Int)))
  | [], v, i, D => by simp [ddF]
  | a :: l, v, i, D => by
    show ddF (l ++ [v]) (i + 1) _ = (ddF l (i + 1) _).put _ _
    rw [ddF_app l v (i + 1), List.length_cons, show i + 1 + l.length = i + (l.length + 1) by omega]
theorem Dd_app (l : List Vl) (v : Vl) : Dd (l ++ [v]) = (Dd l).put (keyV v) (.lit (.int .i64 (l.length : Int))) := by
  unfold Dd
  rw [ddF_app, Nat.zero_add]
theorem ddF_at {v : Vl} (hv : Wd.V1 v ∧ v.s.size ≤ maxLen) (z : DataW Unit) : ∀ (l : List Vl) (i : Nat) (D : DataW Unit), IsMap D → Okk l → l.Nodup → (ddF l i D).atKey (keyV v) z = if v ∈ l then .lit (.int .i64 (fndF l v (i : Int))) else D.atKey (keyV v) z
  | [], i, D, _, _, _ => by simp [ddF]
  | a :: l, i, D, hD, hl, hn => by
    rw [List.nodup_cons] at hn
    have ih := ddF_at hv z l (i + 1) (D.put (keyV a) (.lit (.int .i64 (i : Int)))) (hD.put _ _) (fun x hx => hl x (by simp [hx])) hn.2
    show (ddF l (i + 1) _).atKey _ _ = _
    rw [ih]
    by_cases e : a = v
    · subst e
      rw [if_neg hn.1, if_pos (by simp), atKey_put_same hD (keyV_key a), fndF, if_pos rfl]
    · have hne : keyV v ≠ keyV a := fun q => e (keyV_inj (hl a (by simp)).1 (hl a (by simp)).2 hv.1 hv.2 q.symm)
      rw [fndF, if_neg e, atKey_put_other hne]
      by_cases q : v ∈ l
      · rw [if_pos q, if_pos (by simp [q])]
        rfl
      · rw [if_neg q, if_neg (by simp [q]; exact fun h => e h.symm)]
theorem ddF_has {v : Vl} (hv : Wd.V1 v ∧ v.s.size ≤ maxLen) : ∀ (l : List Vl) (i : Nat) (D : DataW Unit), IsMap D → Okk l → has (ddF l i D) (keyV v) = (decide (v ∈ l) || has D (keyV v))
  | [], i, D, _, _ => by simp [ddF]
  | a :: l, i, D, hD, hl => by
    have ih := ddF_has hv l (i + 1) (D.put (keyV a) (.lit (.int .i64 (i : Int)))) (hD.put _ _) (fun x hx => hl x (by simp [hx]))
    show has (ddF l (i + 1) _) _ = _
    rw [ih]
    by_cases e : a = v
    · subst e
      rw [has_put_same hD (keyV_key a)]
      simp
    · have hne : keyV v ≠ keyV a := fun q => e (keyV_inj (hl a (by simp)).1 (hl a (by simp)).2 hv.1 hv.2 q.symm)
      rw [has_put_other hne]
      simp [show ¬ v = a from fun h => e h.symm]
/-- Is a value found, and with which number? -/
theorem Dd_has {l : List Vl} (hl : Okk l) {v : Vl} (hv : Wd.V1 v ∧ v.s.size ≤ maxLen) : has (Dd l) (keyV v) = decide (v ∈ l) := by
  unfold Dd
  rw [ddF_has hv l 0 _ ⟨[], rfl⟩ hl]
  have : has (DataW.map [] : DataW Unit) (keyV v) = false := rfl
  rw [this, Bool.or_false]
theorem Dd_at {l : List Vl} (hl : Okk l) (hn : l.Nodup) {v : Vl} (hv : Wd.V1 v ∧ v.s.size ≤ maxLen) (z : DataW Unit) : (Dd l).atKey (keyV v) z = if v ∈ l then .lit (.int .i64 (fnd l v)) else z := by
  unfold Dd
  rw [ddF_at hv z l 0 _ ⟨[], rfl⟩ hl hn]
  rfl
theorem Dd_map (l : List Vl) : IsMap (Dd l) := by
  have : ∀ (l : List Vl) (i : Nat) (D : DataW Unit), IsMap D → IsMap (ddF l i D) := by
    intro l
    induction l with
    | nil => intro i D h; exact h
    | cons a l ih => intro i D h; exact ih _ _ (h.put _ _)
  exact this l 0 _ ⟨[], rfl⟩
end Dm
end Go.Proofs.YtoibpbnebcoafaaGreat
namespace Go.Proofs.YtoibpbnebcoafaaGreat
set_option maxRecDepth 20000
open Go.RowKit Go.Maps
namespace Dt
open Va (Vl May ord null)
open Dc Dx
/-- A dictionary in memory: record d, map m, slice v, list L; all of it lies in blocks of G. -/
structure Lay (w : World) (d m : Nat) (v : Value) (L : List Vl) (k : Int) (G : Nat → Prop) : Prop where
  box : Wd.Bx w d 151 #[.int .i64 (lim k), .map (some m), v]
  own : w.ownsMap Tryz.prog 56 (plainElem Tryz.prog 3) m L.length (Dm.Dd L)
  row : w.ownsRow 0 56 4 v L.length (Wd.flatV L)
  gd : G d
  gm : G m
  gv : ∀ x, v.ownBlock = some x → G x
  bd : ∀ g, G g → g < w.heap.size
section
variable {w w' : World} {d m : Nat} {v : Value} {L : List Vl} {k : Int} {G : Nat → Prop}
theorem Lay.mp (h : Lay w d m v L k G) : ∃ es clock, w.heap[m]? = some (.map es clock) := by
  obtain ⟨es, clock, hb, _⟩ := h.own
  exact ⟨es, clock, hb⟩
theorem Lay.md (h : Lay w d m v L k G) : m ≠ d := by
  obtain ⟨es, clock, hb⟩ := h.mp
  intro e
  have := h.box
  unfold Wd.Bx at this
  rw [← e, hb] at this
  cases this
theorem Lay.mv (h : Lay w d m v L k G) : v.ownBlock ≠ some m := by
  obtain ⟨es, clock, hb⟩ := h.mp
  intro e
  obtain ⟨_, _, cur, hc⟩ := Wd.own_lt h.row e
  rw [hb] at hc
  cases hc
theorem Lay.dv (h : Lay w d m v L k G) : v.ownBlock ≠ some d := by
  intro e
  obtain ⟨_, _, cur, hc⟩ := Wd.own_lt h.row e
  have h2 := h.box
  unfold Wd.Bx at h2
  rw [h2] at hc
  simp at hc
/-- Nothing of it turns. -/
theorem Lay.at_ (h : Lay w d m v L k G) (hs : w.heap.size ≤ w'.heap.size) (hk : ∀ g, G g → w'.heap[g]? = w.heap[g]?) : Lay w' d m v L k G :=
  ⟨h.box.at_ (hk d h.gd), Wd.map_keep h.own (hk m h.gm), Wd.own_keep h.row (fun x hx => hk x (h.gv x hx)), h.gd, h.gm, h.gv, fun g hg => Nat.lt_of_lt_of_le (h.bd g hg) hs⟩
theorem Lay.below (h : Lay w d m v L k G) (hb : Below w.heap.size w w') : Lay w' d m v L k G := h.at_ hb.size fun g hg => hb.block g (h.bd g hg)
/-- A value that was not there comes. -/
theorem Lay.more {w1 w2 : World} {v' : Value} (h : Lay w d m v L k G) (x : Vl) (hm : w1.ownsMap Tryz.prog 56 (plainElem Tryz.prog 3) m (L.length + 1) ((Dm.Dd L).put (Dm.keyV x) (.lit (.int .i64 (L.length : Int)))))
    (g1 : w.grownBy w1 (some m)) (hr : w2.ownsRow 0 56 4 v' (L ++ [x]).length (Wd.flatV (L ++ [x]))) (g2 : w1.grownBy w2 v.ownBlock) (hl : v'.ownBlock = v.ownBlock ∨ v'.ownBlock = some w1.heap.size) :
    Lay (w2.setCell ⟨d, 2, none⟩ v') d m v' (L ++ [x]) k (Wd.Gr G w (w2.setCell ⟨d, 2, none⟩ v')) ∧ Wd.Mv G w (w2.setCell ⟨d, 2, none⟩ v') := by
  have z1 := g1.size
  have z2 := g2.size
  have hs : (w2.setCell ⟨d, 2, none⟩ v').heap.size = w2.heap.size := by simp [World.setCell]
  have dm : m ≠ d := h.md
  have dlt := h.box.lt
  have mlt := h.own.lt
  have b1 : Wd.Bx w1 d 151 #[.int .i64 (lim k), .map (some m), v] := h.box.at_ (g1.block d dlt (by simpa using dm.symm))
  have b2 : Wd.Bx w2 d 151 #[.int .i64 (lim k), .map (some m), v] := b1.at_ (g2.block d (by omega) (fun e => h.dv e.symm))
  have m2 := hm.kept g2 (fun e => h.mv e.symm)
  have hvd : ∀ y, v'.ownBlock = some y → y ≠ d := by
    intro y hy e
    rcases hl with q | q
    · exact h.dv (by rw [← q, hy, e])
    · rw [hy] at q
      have := Option.some.inj q
      omega
  refine ⟨⟨?_, ?_, ?_, .inl h.gd, .inl h.gm, ?_, ?_⟩, ?_⟩
  · have := b2.set 2 v'
    simpa using this
  · rw [Dm.Dd_app, List.length_append, List.length_singleton]
    exact Wd.map_keep m2 (Below.heap_setCell _ _ _ _ (by simpa using dm))
  · exact Wd.own_keep hr fun y hy => Below.heap_setCell _ _ _ _ (hvd y hy)
  · intro y hy
    rcases hl with q | q
    · exact .inl (h.gv y (by rw [← q, hy]))
    · rw [hy] at q
      have := Option.some.inj q
      exact .inr ⟨by omega, by rw [hs]; exact (Wd.own_lt hr hy).1⟩
  · exact Wd.Gr.lt h.bd (by rw [hs]; omega)
  · have k1 : Wd.Mv G w w1 := Wd.Mv.of_grown g1 (fun g hg => by cases hg; exact h.gm)
    have k2 : Wd.Mv G w1 w2 := Wd.Mv.of_grown g2 (fun g hg => h.gv g hg)
    exact (k1.then k2).set h.gd _
/-- A new one. -/
theorem Lay.new {w1 : World} (hb : Wd.Bx w1 d 151 #[.int .i64 (lim k), .map (some m), .slice none 0 0]) (ho : w1.ownsMap Tryz.prog 56 (plainElem Tryz.prog 3) m 0 (.map [] : DataW Unit)) :
    Lay w1 d m (.slice none 0 0) [] k (fun g => g = d ∨ g = m) :=
  ⟨hb, ho, World.ownsRow_nil _ _ _ _, .inl rfl, .inr rfl, fun x hx => by simp [Value.ownBlock] at hx, fun g hg => by
    rcases hg with rfl | rfl
    · exact hb.lt
    · exact ho.lt⟩
end
/-- A dictionary of the list L, made for k values, in blocks of G alone. -/
def D (w : World) (d : Nat) (L : List Vl) (k : Int) (G : Nat → Prop) : Prop := ∃ m v, Lay w d m v L k G
/-- Its row as a slice of values. -/
theorem Lay.vs {w : World} {d m : Nat} {v : Value} {L : List Vl} {k : Int} {G : Nat → Prop} (h : Lay w d m v L k G) (ho : ∀ x ∈ L, Okv x) : ∃ A n c, v = .slice A n c ∧ Wd.Vs w A n c L :=
  Wd.Vs.of_own h.row fun j hj => (ho _ (by rw [List.getD_eq_getElem?_getD, List.getElem?_eq_getElem hj]; exact List.getElem_mem hj)).1
end Dt
end Go.Proofs.YtoibpbnebcoafaaGreat
namespace Go.Proofs.YtoibpbnebcoafaaGreat
set_option maxRecDepth 20000
open Go.RowKit Go.Maps
namespace Dt
open Va (Vl May ord null)
open Dc Dx
/-- A pointer to block b. -/
abbrev pt (b : Nat) : Value := .pointer (some ⟨b, 0, none⟩)
theorem own_shape {w : World} {B : Nat} {e : TypeId} {size : Nat} {v : Value} {n : Nat} {xs : List Value} (h : w.ownsRow B e size v n xs) : ∃ A c, v = .slice A n c := by
  rcases h.2 with ⟨rfl, h0⟩ | ⟨g, cap, cur, rfl, _⟩
  · exact ⟨none, 0, by rw [h0]⟩
  · exact ⟨_, _, rfl⟩
theorem zeroI (w : World) : (zeroValue 3).run Tryz.prog w = .ok (.int .i64 0) w := by kernel_rfl
theorem res_cell2 {fn : Func} {p u : Tmp} {ty : TypeId} (h : fn.results = #[.cell p ty, .tmp u]) (tmps : Array Value) (P : Program) (w : World) :
    (results fn tmps).run P w = ((asAddr (tmps.getD p undef)).run P w).andThen fun a w₁ => ((loadVar ty a).run P w₁).andThen fun x w₂ => .ok (.tuple #[x, tmps.getD u undef]) w₂ := by
  simp only [results, h]
  simp [Sem.run_bind, Result.andThen]
section
variable {w : World} {d m : Nat} {v : Value} {L : List Vl} {k : Int} {G : Nat → Prop}
theorem new_any (k : Int) (w : World) : Calls Tryz.prog 114 #[.int .i64 k] w fun e w' => ∃ d G, e = .returned (pt d) ∧ D w' d [] k G ∧ Below w.heap.size w w' ∧ ∀ g, G g → w.heap.size ≤ g := by
  have hmm := @run_makeMap Tryz.prog
  have key : ∀ l : Int, l = lim k → Calls Tryz.prog 114 #[.int .i64 k] w fun e w' => e = .returned (pt (w.heap.size + 1)) ∧ w' = (w.alloc (.map #[] 0)).alloc (.cells #[.int .i64 l, .map (some w.heap.size), .slice none 0 0] 151) := by
    intro l hl
    have Hl := Lib.hid hl
    clear hl
    go_enter Tryz.func114, Tryz.ntmps114
    go_wp2_with fail
    case inl =>
      go_ret
      rw [show l = 4096 by rw [Hl.out]; unfold lim; split <;> (try split) <;> omega]
      exact ⟨rfl, rfl⟩
    case inr.inl =>
      go_ret
      rw [show l = k by rw [Hl.out]; unfold lim; split <;> (try split) <;> omega]
      exact ⟨rfl, rfl⟩
    case inr.inr =>
      go_ret
      rw [show l = 0 by rw [Hl.out]; unfold lim; split <;> (try split) <;> omega]
      exact ⟨rfl, rfl⟩
  refine (key _ rfl).mono ?_
  rintro e w' ⟨rfl, rfl⟩
  have hb1 := (Below.refl w.heap.size w).alloc (Nat.le_refl _) (.map #[] 0)
  refine ⟨w.heap.size + 1, _, rfl, ⟨w.heap.size, .slice none 0 0, Lay.new ?_ ?_⟩, hb1.alloc hb1.size _, ?_⟩
  · have := Wd.Bx.new (w.alloc (.map #[] 0)) 151 #[.int .i64 (lim k), .map (some w.heap.size), .slice none 0 0]
    simpa using this
  · exact (World.ownsMap_made w Tryz.prog 56 _).alloc _
  · rintro g (rfl | rfl) <;> omega
set_option maxHeartbeats 1000000 in
theorem find_any (x : Vl) (h : Lay w d m v L k G) (hd : Dis L k) (ho : ∀ y ∈ L, Okv y) (hx : Okv x) :
    Calls Tryz.prog 137 #[pt d, .agg #[.int .i64 x.kind, .int .i64 x.i, .string x.s, .bool x.b]] w fun e w' => e = .returned (.tuple #[.int .i64 (if x ∈ L then fnd L x else 0), .bool (decide (x ∈ L))]) ∧ Below w.heap.size w w' := by
  have hb0 := (Below.refl w.heap.size w).alloc (Nat.le_refl _) (.cells #[.int .i64 x.kind, .int .i64 x.i, .string x.s, .bool x.b] 56)
  have x0 : Vc.Vb (w.alloc (.cells #[.int .i64 x.kind, .int .i64 x.i, .string x.s, .bool x.b] 56)) w.heap.size x.kind x.i x.s x.b := Wd.Bx.new w _ _
  have h1 := h.below hb0
  have c1 := h1.box.cell 1
  simp at c1
  have hrun : (Instr.lookup 149 (.map (some m)) (.agg #[.int .i64 x.kind, .int .i64 x.i, .string x.s, .bool x.b]) true).run Tryz.prog (w.alloc (.cells #[.int .i64 x.kind, .int .i64 x.i, .string x.s, .bool x.b] 56)).drew = .ok (.tuple #[.int .i64 (if x ∈ L then fnd L x else 0), .bool (decide (x ∈ L))]) (w.alloc (.cells #[.int .i64 x.kind, .int .i64 x.i, .string x.s, .bool x.b] 56)).drew := by
    obtain ⟨v', ps, hr, hv⟩ := h1.own.drew.look_ok Dm.law Tryz.underlying149 (zeroI _) (plainElem_int Tryz.underlying3 (by decide)) (Dm.key_of hx.1 hx.2)
    obtain ⟨c, rfl, hc, _⟩ := plainElem_int_inv Tryz.underlying3 hv
    have hc1 := congrArg Prod.fst hc
    simp only [] at hc1
    rw [Dm.Dd_at (fun y hy => ho y hy) hd.nd hx] at hc1
    rw [hr, Dm.Dd_has (fun y hy => ho y hy) hx]
    have : c = if x ∈ L then fnd L x else 0 := by
      by_cases q : x ∈ L
      · rw [if_pos q] at hc1 ⊢
        cases hc1
        rfl
      · rw [if_neg q] at hc1 ⊢
        cases hc1
        rfl
    rw [this]
  obtain ⟨N, hN⟩ : ∃ N, N = if x ∈ L then fnd L x else 0 := ⟨_, rfl⟩
  obtain ⟨B, hB⟩ : ∃ B, B = decide (x ∈ L) := ⟨_, rfl⟩
  rw [← hN, ← hB] at hrun ⊢
  clear hN hB h h1 hd ho hx
  go_enter Tryz.func137, Tryz.ntmps137
  go_wp2_with fail
  generalize w.alloc (.cells #[.int .i64 x.kind, .int .i64 x.i, .string x.s, .bool x.b] 56) = wa at *
  obtain ⟨⟨y0, y1, y2, y3⟩, -⟩ := Vc.four x0
  go_region
  all_goals (
    go_wp2_with fail
    go_ret2
    exact ⟨rfl, hb0.drew⟩)
end
end Dt
end Go.Proofs.YtoibpbnebcoafaaGreat
