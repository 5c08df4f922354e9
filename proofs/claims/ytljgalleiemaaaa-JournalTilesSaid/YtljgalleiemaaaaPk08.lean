/- Package journal: partitions out of a journal and back; Apply. -/
import Derived.Test.YtljgalleiemaaaaPk07
namespace Go.Proofs.Ytljgalleiemaaaa
set_option maxRecDepth 20000
open Go.RowKit
namespace Jr
open Jo (En May Wf Rg Pt endOf last app1)
open Wd (Pv Pc Es Lv Bx)
theorem clip_any (A : Option Addr) (n c : Nat) (w : World) (h : n ≤ c) : Calls Try.prog 31 #[.slice A n c] w fun e w' => e = .returned (.slice A n n) ∧ w = w' := by
  go_enter Try.func31, Try.ntmps31
  go_wp2_with fail
  go_ret
  exact ⟨rfl, rfl⟩
theorem alS {w a : World} (h : Below w.heap.size w a) (o : Obj) : Below w.heap.size w (a.alloc o) := h.alloc h.size o
set_option maxHeartbeats 4000000 in
theorem partsOf_any (p0 p1 p2 p3 : Pv) (w : World) (h0 : p0.n ≤ p0.c) (h1 : p1.n ≤ p1.c) (h2 : p2.n ≤ p2.c) (h3 : p3.n ≤ p3.c) :
    Calls Try.prog 18 #[.agg #[.int .i64 p0.g, .int .i64 p0.b, .slice p0.A p0.n p0.c, .int .i64 p1.g, .int .i64 p1.b, .slice p1.A p1.n p1.c, .int .i64 p2.g, .int .i64 p2.b, .slice p2.A p2.n p2.c, .int .i64 p3.g, .int .i64 p3.b, .slice p3.A p3.n p3.c]] w fun e w' => e = .returned (.agg #[.int .i64 p0.g, .int .i64 p0.b, .slice p0.A p0.n p0.n, .int .i64 p1.g, .int .i64 p1.b, .slice p1.A p1.n p1.n, .int .i64 p2.g, .int .i64 p2.b, .slice p2.A p2.n p2.n, .int .i64 p3.g, .int .i64 p3.b, .slice p3.A p3.n p3.n]) ∧ Below w.heap.size w w' := by
  have x0 : ∀ w, (Instr.index 27 (.agg #[.int .i64 p0.g, .int .i64 p0.b, .slice p0.A p0.n p0.c, .int .i64 p1.g, .int .i64 p1.b, .slice p1.A p1.n p1.c, .int .i64 p2.g, .int .i64 p2.b, .slice p2.A p2.n p2.c, .int .i64 p3.g, .int .i64 p3.b, .slice p3.A p3.n p3.c]) (.int .i64 0)).run Try.prog w = .ok (.agg #[.int .i64 p0.g, .int .i64 p0.b, .slice p0.A p0.n p0.c]) w := fun _ => by kernel_rfl
  have x1 : ∀ w, (Instr.index 27 (.agg #[.int .i64 p0.g, .int .i64 p0.b, .slice p0.A p0.n p0.c, .int .i64 p1.g, .int .i64 p1.b, .slice p1.A p1.n p1.c, .int .i64 p2.g, .int .i64 p2.b, .slice p2.A p2.n p2.c, .int .i64 p3.g, .int .i64 p3.b, .slice p3.A p3.n p3.c]) (.int .i64 1)).run Try.prog w = .ok (.agg #[.int .i64 p1.g, .int .i64 p1.b, .slice p1.A p1.n p1.c]) w := fun _ => by kernel_rfl
  have x2 : ∀ w, (Instr.index 27 (.agg #[.int .i64 p0.g, .int .i64 p0.b, .slice p0.A p0.n p0.c, .int .i64 p1.g, .int .i64 p1.b, .slice p1.A p1.n p1.c, .int .i64 p2.g, .int .i64 p2.b, .slice p2.A p2.n p2.c, .int .i64 p3.g, .int .i64 p3.b, .slice p3.A p3.n p3.c]) (.int .i64 2)).run Try.prog w = .ok (.agg #[.int .i64 p2.g, .int .i64 p2.b, .slice p2.A p2.n p2.c]) w := fun _ => by kernel_rfl
  have x3 : ∀ w, (Instr.index 27 (.agg #[.int .i64 p0.g, .int .i64 p0.b, .slice p0.A p0.n p0.c, .int .i64 p1.g, .int .i64 p1.b, .slice p1.A p1.n p1.c, .int .i64 p2.g, .int .i64 p2.b, .slice p2.A p2.n p2.c, .int .i64 p3.g, .int .i64 p3.b, .slice p3.A p3.n p3.c]) (.int .i64 3)).run Try.prog w = .ok (.agg #[.int .i64 p3.g, .int .i64 p3.b, .slice p3.A p3.n p3.c]) w := fun _ => by kernel_rfl
  have C0 := Lib.hid (fun w => clip_any p0.A p0.n p0.c w h0)
  have C1 := Lib.hid (fun w => clip_any p1.A p1.n p1.c w h1)
  have C2 := Lib.hid (fun w => clip_any p2.A p2.n p2.c w h2)
  have C3 := Lib.hid (fun w => clip_any p3.A p3.n p3.c w h3)
  clear h0 h1 h2 h3
  go_enter Try.func18, Try.ntmps18
  go_wp2_with fail
  refine wp_loop_rounds 5 ?_
  rw [rounds_succ]
  go_wp2_with (with_reducible refine (C0.out _).mono ?_; rintro e w' ⟨rfl, rfl⟩)
  rw [rounds_succ]
  go_wp2_with (with_reducible refine (C1.out _).mono ?_; rintro e w' ⟨rfl, rfl⟩)
  rw [rounds_succ]
  go_wp2_with (with_reducible refine (C2.out _).mono ?_; rintro e w' ⟨rfl, rfl⟩)
  rw [rounds_succ]
  go_wp2_with (with_reducible refine (C3.out _).mono ?_; rintro e w' ⟨rfl, rfl⟩)
  rw [rounds_succ]
  go_wp2_with fail
  refine bodyPost_ret (v := .agg #[.int .i64 p0.g, .int .i64 p0.b, .slice p0.A p0.n p0.n, .int .i64 p1.g, .int .i64 p1.b, .slice p1.A p1.n p1.n, .int .i64 p2.g, .int .i64 p2.b, .slice p2.A p2.n p2.n, .int .i64 p3.g, .int .i64 p3.b, .slice p3.A p3.n p3.n]) ?_ rfl ⟨rfl, ?_⟩
  · rw [res_cell1 rfl]; go_simp
  · exact alS (alS (alS (alS (alS (alS (alS (Below.refl _ _) _) _) _) _) _) _) _
/-- A journal as a value. -/
structure Jv (w : World) (q0 q1 q2 q3 : Pv) (j : Jo.Jn) : Prop where
  e : j = [q0.pt, q1.pt, q2.pt, q3.pt]
  s0 : Es w q0.A q0.n q0.c q0.l
  s1 : Es w q1.A q1.n q1.c q1.l
  s2 : Es w q2.A q2.n q2.c q2.l
  s3 : Es w q3.A q3.n q3.c q3.l
  r0 : Rg q0.g ∧ Rg q0.b
  r1 : Rg q1.g ∧ Rg q1.b
  r2 : Rg q2.g ∧ Rg q2.b
  r3 : Rg q3.g ∧ Rg q3.b
theorem Jv.below {w w' : World} {q0 q1 q2 q3 : Pv} {j : Jo.Jn} (h : Jv w q0 q1 q2 q3 j) (hb : Below w.heap.size w w') : Jv w' q0 q1 q2 q3 j := ⟨h.e, h.s0.below hb, h.s1.below hb, h.s2.below hb, h.s3.below hb, h.r0, h.r1, h.r2, h.r3⟩
/-- Its lists lie in blocks from B on. -/
def Nw1 (B : Nat) (q : Pv) : Prop := ∀ g, (Value.slice q.A q.n q.c).ownBlock = some g → B ≤ g
def Nw (B : Nat) (q0 q1 q2 q3 : Pv) : Prop := Nw1 B q0 ∧ Nw1 B q1 ∧ Nw1 B q2 ∧ Nw1 B q3
theorem Nw1.mono {B B' : Nat} {q : Pv} (h : Nw1 B q) (hB : B' ≤ B) : Nw1 B' q := fun g hg => Nat.le_trans hB (h g hg)
theorem Nw.mono {B B' : Nat} {q0 q1 q2 q3 : Pv} (h : Nw B q0 q1 q2 q3) (hB : B' ≤ B) : Nw B' q0 q1 q2 q3 := ⟨h.1.mono hB, h.2.1.mono hB, h.2.2.1.mono hB, h.2.2.2.mono hB⟩
theorem nws_nil (B : Nat) : Nw B default default default default := by
  have h : Nw1 B default := fun g hg => by cases hg
  exact ⟨h, h, h, h⟩
def OutJ (w : World) (j : Jo.Jn) (e : Ending) (w' : World) : Prop := ∃ q0 q1 q2 q3, e = .returned (.agg #[.int .i64 q0.g, .int .i64 q0.b, .slice q0.A q0.n q0.c, .int .i64 q1.g, .int .i64 q1.b, .slice q1.A q1.n q1.c, .int .i64 q2.g, .int .i64 q2.b, .slice q2.A q2.n q2.c, .int .i64 q3.g, .int .i64 q3.b, .slice q3.A q3.n q3.c]) ∧ (Jv w' q0 q1 q2 q3 j ∧ Nw w.heap.size q0 q1 q2 q3) ∧ Below w.heap.size w w'
/-- The partition q tells what p does. -/
def Cp (w : World) (q p : Pv) : Prop := q.g = p.g ∧ q.b = p.b ∧ q.l = p.l ∧ Es w q.A q.n q.c q.l
theorem Cp.below {w w' : World} {q p : Pv} (h : Cp w q p) (hb : Below w.heap.size w w') : Cp w' q p := ⟨h.1, h.2.1, h.2.2.1, h.2.2.2.below hb⟩
structure JI (w0 : World) (p0 p1 p2 p3 : Pv) (wr : World) (k : Nat) (q0 q1 q2 q3 : Pv) : Prop where
  box : Bx wr (w0.heap.size + 1) 27 #[.int .i64 q0.g, .int .i64 q0.b, .slice q0.A q0.n q0.c, .int .i64 q1.g, .int .i64 q1.b, .slice q1.A q1.n q1.c, .int .i64 q2.g, .int .i64 q2.b, .slice q2.A q2.n q2.c, .int .i64 q3.g, .int .i64 q3.b, .slice q3.A q3.n q3.c]
  res : Bx wr w0.heap.size 27 #[.int .i64 0, .int .i64 0, .slice none 0 0, .int .i64 0, .int .i64 0, .slice none 0 0, .int .i64 0, .int .i64 0, .slice none 0 0, .int .i64 0, .int .i64 0, .slice none 0 0]
  bel : Below w0.heap.size w0 wr
  d0 : 0 < k → Cp wr q0 p0
  d1 : 1 < k → Cp wr q1 p1
  d2 : 2 < k → Cp wr q2 p2
  d3 : 3 < k → Cp wr q3 p3
  n0 : 0 < k → Nw1 w0.heap.size q0
  n1 : 1 < k → Nw1 w0.heap.size q1
  n2 : 2 < k → Nw1 w0.heap.size q2
  n3 : 3 < k → Nw1 w0.heap.size q3
structure J6 (w0 w6 wr : World) (p : Pv) (cs : Array Value) : Prop where
  box : Bx w6 (w0.heap.size + 1) 27 cs
  res : Bx w6 w0.heap.size 27 #[.int .i64 0, .int .i64 0, .slice none 0 0, .int .i64 0, .int .i64 0, .slice none 0 0, .int .i64 0, .int .i64 0, .slice none 0 0, .int .i64 0, .int .i64 0, .slice none 0 0]
  bel : Below w0.heap.size w0 w6
  rel : Wd.Mv (fun g => g = w0.heap.size + 1) wr w6
  new : Bx w6 wr.heap.size 51 #[.int .i64 p.g, .int .i64 p.b, .slice p.A p.n p.c]
theorem J6.es {w0 w6 wr : World} {p : Pv} {cs : Array Value} {A : Option Addr} {n c : Nat} {l : List En} (h : J6 w0 w6 wr p cs) (e : Es w0 A n c l) : Es w6 A n c l := e.below h.bel
theorem JI.six {w0 wr w6 : World} {p0 p1 p2 p3 q0 q1 q2 q3 : Pv} {k : Nat} (h : JI w0 p0 p1 p2 p3 wr k q0 q1 q2 q3) (p : Pv) {o0 o1 o2 : Nat} (e : w6 = ((((wr.setCell ⟨w0.heap.size + 1, o0, none⟩ (.int .i64 p.g)).setCell ⟨w0.heap.size + 1, o1, none⟩ (.int .i64 p.b)).setCell ⟨w0.heap.size + 1, o2, none⟩ (.slice p.A p.n p.c)).alloc (.cells #[.int .i64 p.g, .int .i64 p.b, .slice p.A p.n p.c] 51)).drew) :
    J6 w0 w6 wr p (((#[.int .i64 q0.g, .int .i64 q0.b, .slice q0.A q0.n q0.c, .int .i64 q1.g, .int .i64 q1.b, .slice q1.A q1.n q1.c, .int .i64 q2.g, .int .i64 q2.b, .slice q2.A q2.n q2.c, .int .i64 q3.g, .int .i64 q3.b, .slice q3.A q3.n q3.c].setIfInBounds o0 (.int .i64 p.g)).setIfInBounds o1 (.int .i64 p.b)).setIfInBounds o2 (.slice p.A p.n p.c)) := by
  have hz : ((((wr.setCell ⟨w0.heap.size + 1, o0, none⟩ (.int .i64 p.g)).setCell ⟨w0.heap.size + 1, o1, none⟩ (.int .i64 p.b)).setCell ⟨w0.heap.size + 1, o2, none⟩ (.slice p.A p.n p.c))).heap.size = wr.heap.size := by simp
  have mv : Wd.Mv (fun g => g = w0.heap.size + 1) wr w6 := by
    rw [e]
    exact (((((Wd.Mv.refl (fun g => g = w0.heap.size + 1) wr).set (a := ⟨w0.heap.size + 1, o0, none⟩) rfl _).set (a := ⟨w0.heap.size + 1, o1, none⟩) rfl _).set (a := ⟨w0.heap.size + 1, o2, none⟩) rfl _).alloc _).drew
  refine ⟨?_, h.res.at_ (mv.keep _ h.res.lt (by omega)), h.bel.trans (mv.below (B := w0.heap.size) (fun g z => by omega) h.bel.size), mv, ?_⟩
  · rw [e]
    exact (((h.box.set o0 _).set o1 _).set o2 _).alloc _
  · rw [e, ← hz]
    exact Bx.new _ _ _
theorem own_slice {w : World} {B : Nat} {v : Value} {l : List En} {n : Nat} (h : w.ownsRow B 32 7 v ([] ++ l).length (Jo.flatE ([] ++ l))) (hn : n = l.length) (hw : ∀ x ∈ l, Wf x) : ∃ A c, v = .slice A n c ∧ Es w A n c l ∧ ∀ g, (Value.slice A n c).ownBlock = some g → B ≤ g := by
  rw [List.nil_append] at h
  rw [hn]
  obtain ⟨A, c, e, h2⟩ := Es.of_own h hw
  exact ⟨A, c, e, h2, fun g hg => (h.lt g (by rw [e]; exact hg)).1⟩
theorem Cp.keep {w w' : World} {q p : Pv} {G : Nat → Prop} (h : Cp w q p) (mv : Wd.Mv G w w') (hn : ∀ b o, q.A = some ⟨b, o, none⟩ → 0 < q.l.length → ¬ G b) : Cp w' q p := ⟨h.1, h.2.1, h.2.2.1, h.2.2.2.keep mv hn⟩
/-- Entries do not lie in the block of a journal. -/
theorem es_ne {w : World} {A : Option Addr} {n c : Nat} {l : List En} {g : Nat} {p0 p1 p2 p3 : Pv} {t : TypeId} (h : Es w A n c l) (hb : Bx w g t #[.int .i64 p0.g, .int .i64 p0.b, .slice p0.A p0.n p0.c, .int .i64 p1.g, .int .i64 p1.b, .slice p1.A p1.n p1.c, .int .i64 p2.g, .int .i64 p2.b, .slice p2.A p2.n p2.c, .int .i64 p3.g, .int .i64 p3.b, .slice p3.A p3.n p3.c]) : ∀ b o, A = some ⟨b, o, none⟩ → 0 < l.length → ¬ b = g := by
  intro b o hA hl e
  obtain ⟨b', o', hA', _, hc⟩ := h.at_ 0 hl
  rw [hA] at hA'
  cases hA'
  subst e
  have k0 := hc 0 _ rfl
  have k1 := hc 1 _ rfl
  have k2 := hc 2 _ rfl
  rw [hb.cell] at k0 k1 k2
  have : o < 10 := by
    have := (Array.getElem?_eq_some_iff.1 k2).1
    simp at this
    omega
  match o, this with
  | 0, _ => simp at k2
  | 1, _ => simp at k1
  | 2, _ => simp at k0
  | 3, _ => simp at k2
  | 4, _ => simp at k1
  | 5, _ => simp at k0
  | 6, _ => simp at k2
  | 7, _ => simp at k1
  | 8, _ => simp at k0
  | 9, _ => simp at k2
theorem Cp.mv {w0 w6 wr : World} {p0 p1 p2 p3 q0 q1 q2 q3 p q x : Pv} {k : Nat} {cs : Array Value} (h : Cp wr q x) (hI : JI w0 p0 p1 p2 p3 wr k q0 q1 q2 q3) (h6 : J6 w0 w6 wr p cs) : Cp w6 q x := h.keep h6.rel (es_ne h.2.2.2 hI.box)
theorem Cp.grown {w6 w7 : World} {q x : Pv} (h : Cp w6 q x) (hg : w6.grownBy w7 (Value.slice none 0 0).ownBlock) : Cp w7 q x := h.keep (Wd.Mv.of_grown (G := fun _ => False) hg (by simp [Value.ownBlock])) fun _ _ _ _ z => z
theorem Cp.set {w7 : World} {q x : Pv} {g o : Nat} {v : Value} {p0 p1 p2 p3 : Pv} {t : TypeId} (h : Cp w7 q x) (hb : Bx w7 g t #[.int .i64 p0.g, .int .i64 p0.b, .slice p0.A p0.n p0.c, .int .i64 p1.g, .int .i64 p1.b, .slice p1.A p1.n p1.c, .int .i64 p2.g, .int .i64 p2.b, .slice p2.A p2.n p2.c, .int .i64 p3.g, .int .i64 p3.b, .slice p3.A p3.n p3.c]) : Cp (w7.setCell ⟨g, o, none⟩ v) q x := h.keep ((Wd.Mv.refl (fun b => b = g) w7).set (a := ⟨g, o, none⟩) rfl v) (es_ne h.2.2.2 hb)
theorem JI.res7 {w0 w6 w7 wr : World} {p : Pv} {cs : Array Value} {o : Nat} (h : J6 w0 w6 wr p cs) (hg : w6.grownBy w7 (Value.slice none 0 0).ownBlock) (v : Value) : Bx (w7.setCell ⟨w0.heap.size + 1, o, none⟩ v) w0.heap.size 27 #[.int .i64 0, .int .i64 0, .slice none 0 0, .int .i64 0, .int .i64 0, .slice none 0 0, .int .i64 0, .int .i64 0, .slice none 0 0, .int .i64 0, .int .i64 0, .slice none 0 0] := (h.res.grown hg (by simp [Value.ownBlock])).other (by simp) v
theorem JI.bel7 {w0 w6 w7 wr : World} {p : Pv} {cs : Array Value} {o : Nat} (h : J6 w0 w6 wr p cs) (hg : w6.grownBy w7 (Value.slice none 0 0).ownBlock) (v : Value) : Below w0.heap.size w0 (w7.setCell ⟨w0.heap.size + 1, o, none⟩ v) := (h.bel.grown hg h.bel.size (by simp [Value.ownBlock])).setCell (by simp) v
theorem JI.done {w0 wr wf : World} {p0 p1 p2 p3 q0 q1 q2 q3 : Pv} {k : Nat} (h : JI w0 p0 p1 p2 p3 wr k q0 q1 q2 q3) (hk : 3 < k) (r0 : Rg p0.g ∧ Rg p0.b) (r1 : Rg p1.g ∧ Rg p1.b) (r2 : Rg p2.g ∧ Rg p2.b) (r3 : Rg p3.g ∧ Rg p3.b) (mv : Wd.Mv (fun g => g = w0.heap.size) wr wf) :
    (Jv wf q0 q1 q2 q3 [p0.pt, p1.pt, p2.pt, p3.pt] ∧ Nw w0.heap.size q0 q1 q2 q3) ∧ Below w0.heap.size w0 wf := by
  have key : ∀ q p : Pv, Cp wr q p → Cp wf q p := fun q p c => c.keep mv (es_ne (p0 := default) (p1 := default) (p2 := default) (p3 := default) c.2.2.2 h.res)
  have c0 := key _ _ (h.d0 (by omega))
  have c1 := key _ _ (h.d1 (by omega))
  have c2 := key _ _ (h.d2 (by omega))
  have c3 := key _ _ (h.d3 (by omega))
  have pe : ∀ q p : Pv, Cp wf q p → p.pt = q.pt := fun q p c => by unfold Pv.pt; rw [c.1, c.2.1, c.2.2.1]
  refine ⟨⟨⟨by rw [pe _ _ c0, pe _ _ c1, pe _ _ c2, pe _ _ c3], c0.2.2.2, c1.2.2.2, c2.2.2.2, c3.2.2.2, ?_, ?_, ?_, ?_⟩, h.n0 (by omega), h.n1 (by omega), h.n2 (by omega), h.n3 (by omega)⟩, h.bel.trans (mv.below (B := w0.heap.size) (fun g z => by omega) h.bel.size)⟩
  · rw [c0.1, c0.2.1]; exact r0
  · rw [c1.1, c1.2.1]; exact r1
  · rw [c2.1, c2.2.1]; exact r2
  · rw [c3.1, c3.2.1]; exact r3
theorem twelve {w : World} {g : Nat} {t : TypeId} {v0 v1 v2 v3 v4 v5 v6 v7 v8 v9 v10 v11 : Value} (h : Bx w g t #[v0, v1, v2, v3, v4, v5, v6, v7, v8, v9, v10, v11]) : (w.cell? ⟨g, 0, none⟩ = some v0 ∧ w.cell? ⟨g, 1, none⟩ = some v1 ∧ w.cell? ⟨g, 2, none⟩ = some v2 ∧ w.cell? ⟨g, 3, none⟩ = some v3 ∧ w.cell? ⟨g, 4, none⟩ = some v4 ∧ w.cell? ⟨g, 5, none⟩ = some v5 ∧ w.cell? ⟨g, 6, none⟩ = some v6 ∧ w.cell? ⟨g, 7, none⟩ = some v7 ∧ w.cell? ⟨g, 8, none⟩ = some v8 ∧ w.cell? ⟨g, 9, none⟩ = some v9 ∧ w.cell? ⟨g, 10, none⟩ = some v10 ∧ w.cell? ⟨g, 11, none⟩ = some v11) ∧ (w.frozen? ⟨g, 0, none⟩ = false ∧ w.frozen? ⟨g, 1, none⟩ = false ∧ w.frozen? ⟨g, 2, none⟩ = false ∧ w.frozen? ⟨g, 3, none⟩ = false ∧ w.frozen? ⟨g, 4, none⟩ = false ∧ w.frozen? ⟨g, 5, none⟩ = false ∧ w.frozen? ⟨g, 6, none⟩ = false ∧ w.frozen? ⟨g, 7, none⟩ = false ∧ w.frozen? ⟨g, 8, none⟩ = false ∧ w.frozen? ⟨g, 9, none⟩ = false ∧ w.frozen? ⟨g, 10, none⟩ = false ∧ w.frozen? ⟨g, 11, none⟩ = false) :=
  ⟨⟨h.cell 0, h.cell 1, h.cell 2, h.cell 3, h.cell 4, h.cell 5, h.cell 6, h.cell 7, h.cell 8, h.cell 9, h.cell 10, h.cell 11⟩, ⟨h.free 0, h.free 1, h.free 2, h.free 3, h.free 4, h.free 5, h.free 6, h.free 7, h.free 8, h.free 9, h.free 10, h.free 11⟩⟩
set_option maxHeartbeats 8000000 in
theorem journal_any (b : Nat) (p0 p1 p2 p3 : Pv) (w : World) (hb : Bx w b 53 #[.int .i64 p0.g, .int .i64 p0.b, .slice p0.A p0.n p0.c, .int .i64 p1.g, .int .i64 p1.b, .slice p1.A p1.n p1.c, .int .i64 p2.g, .int .i64 p2.b, .slice p2.A p2.n p2.c, .int .i64 p3.g, .int .i64 p3.b, .slice p3.A p3.n p3.c]) (hj : Jv w p0 p1 p2 p3 [p0.pt, p1.pt, p2.pt, p3.pt]) (h0 : p0.n ≤ 500000) (h1 : p1.n ≤ 500000) (h2 : p2.n ≤ 500000) (h3 : p3.n ≤ 500000) :
    Calls Try.prog 20 #[.pointer (some ⟨b, 0, none⟩)] w (OutJ w [p0.pt, p1.pt, p2.pt, p3.pt]) := by
  have al := alS (alS (Below.refl w.heap.size w) (.cells #[.int .i64 0, .int .i64 0, .slice none 0 0, .int .i64 0, .int .i64 0, .slice none 0 0, .int .i64 0, .int .i64 0, .slice none 0 0, .int .i64 0, .int .i64 0, .slice none 0 0] 27)) (.cells #[.int .i64 0, .int .i64 0, .slice none 0 0, .int .i64 0, .int .i64 0, .slice none 0 0, .int .i64 0, .int .i64 0, .slice none 0 0, .int .i64 0, .int .i64 0, .slice none 0 0] 27)
  have jb := Bx.new (w.alloc (.cells #[.int .i64 0, .int .i64 0, .slice none 0 0, .int .i64 0, .int .i64 0, .slice none 0 0, .int .i64 0, .int .i64 0, .slice none 0 0, .int .i64 0, .int .i64 0, .slice none 0 0] 27)) 27 #[.int .i64 0, .int .i64 0, .slice none 0 0, .int .i64 0, .int .i64 0, .slice none 0 0, .int .i64 0, .int .i64 0, .slice none 0 0, .int .i64 0, .int .i64 0, .slice none 0 0]
  have rb := (Bx.new w 27 #[.int .i64 0, .int .i64 0, .slice none 0 0, .int .i64 0, .int .i64 0, .slice none 0 0, .int .i64 0, .int .i64 0, .slice none 0 0, .int .i64 0, .int .i64 0, .slice none 0 0]).alloc (.cells #[.int .i64 0, .int .i64 0, .slice none 0 0, .int .i64 0, .int .i64 0, .slice none 0 0, .int .i64 0, .int .i64 0, .slice none 0 0, .int .i64 0, .int .i64 0, .slice none 0 0] 27)
  have ej : (w.alloc (.cells #[.int .i64 0, .int .i64 0, .slice none 0 0, .int .i64 0, .int .i64 0, .slice none 0 0, .int .i64 0, .int .i64 0, .slice none 0 0, .int .i64 0, .int .i64 0, .slice none 0 0] 27)).heap.size = w.heap.size + 1 := by simp
  rw [ej] at jb
  obtain ⟨w1, hw1⟩ : ∃ w1, w1 = (w.alloc (.cells #[.int .i64 0, .int .i64 0, .slice none 0 0, .int .i64 0, .int .i64 0, .slice none 0 0, .int .i64 0, .int .i64 0, .slice none 0 0, .int .i64 0, .int .i64 0, .slice none 0 0] 27)).alloc (.cells #[.int .i64 0, .int .i64 0, .slice none 0 0, .int .i64 0, .int .i64 0, .slice none 0 0, .int .i64 0, .int .i64 0, .slice none 0 0, .int .i64 0, .int .i64 0, .slice none 0 0] 27) := ⟨_, rfl⟩
  rw [← hw1] at al jb rb
  have HB := Lib.hid hb
  have HR := Lib.hid (And.intro hj.r0 (And.intro hj.r1 (And.intro hj.r2 hj.r3)))
  have HS0 := Lib.hid hj.s0
  have HS1 := Lib.hid hj.s1
  have HS2 := Lib.hid hj.s2
  have HS3 := Lib.hid hj.s3
  have AL := Lib.hid al
  have RB := Lib.hid rb
  have JB := Lib.hid jb
  have Hw1 := Lib.hid hw1
  have hlb := hb.lt
  clear hb hj al rb jb hw1 ej
  go_enter Try.func20, Try.ntmps20
  go_upto_region 2 with fail
  rw [← Hw1.out]
  go_wp2_with fail
  go_loopw [4, 8] (fun _ i wr => ∃ k : Nat, i = .int .i64 k ∧ k ≤ 4 ∧ ∃ q0 q1 q2 q3, Hid (JI w p0 p1 p2 p3 wr k q0 q1 q2 q3)) (fun _ i _ => 4 - (intOf i).toNat)
  case atStart => exact ⟨0, rfl, Nat.zero_le _, default, default, default, default, Lib.hid ⟨JB.out, RB.out, AL.out, fun h => by omega, fun h => by omega, fun h => by omega, fun h => by omega, fun h => by omega, fun h => by omega, fun h => by omega, fun h => by omega⟩⟩
  case round =>
    obtain ⟨k, rfl, hk, q0, q1, q2, q3, hI⟩ := hrel
    match k, hk with
-- ROUNDS
    | 0, _ =>
      have bx := HB.out.below HB.out.lt hI.out.bel
      obtain ⟨c0, c1, c2⟩ := And.intro (bx.cell 0) (And.intro (bx.cell 1) (bx.cell 2))
      have hbl := bx.lt
      have hjx := hI.out.box
      obtain ⟨e0, e1, e2, f0, f1, f2⟩ := And.intro (hjx.cell 0) (And.intro (hjx.cell 1) (And.intro (hjx.cell 2) (And.intro (hjx.free 0) (And.intro (hjx.free 1) (hjx.free 2)))))
      have hjl := hjx.lt
      clear bx hjx
      go_upto_region 4 with fail
      go_region
      go_upto_region 6 with fail
      obtain ⟨w6, hw6⟩ : ∃ w6, w6 = ((((wr.setCell ⟨w.heap.size + 1, 0, none⟩ (.int .i64 p0.g)).setCell ⟨w.heap.size + 1, 1, none⟩ (.int .i64 p0.b)).setCell ⟨w.heap.size + 1, 2, none⟩ (.slice p0.A p0.n p0.c)).alloc (.cells #[.int .i64 p0.g, .int .i64 p0.b, .slice p0.A p0.n p0.c] 51)).drew := ⟨_, rfl⟩
      rw [← hw6]
      have T6 := JI.six hI.out p0 hw6
      have X6 : Bx w6 (w.heap.size + 1) 27 #[.int .i64 p0.g, .int .i64 p0.b, .slice p0.A p0.n p0.c, .int .i64 q1.g, .int .i64 q1.b, .slice q1.A q1.n q1.c, .int .i64 q2.g, .int .i64 q2.b, .slice q2.A q2.n q2.c, .int .i64 q3.g, .int .i64 q3.b, .slice q3.A q3.n q3.c] := by simpa using T6.box
      have g2 := T6.new.cell 2
      have E6 := T6.es HS0.out
      have hl6 := E6.len
      have own6 := World.ownsRow_nil w6 w6.heap.size 32 7
      have hz6 := Nat.le_refl w6.heap.size
      have HT6 := Lib.hid T6
      have HX6 := Lib.hid X6
      have HL6 := Lib.hid hl6
      have hnl : ([] : List En).length + p0.l.length ≤ 1000000 := by rw [← hl6]; simp; omega
      clear hw6 T6 X6 c0 c1 c2 e0 e1 e2 f0 f1 f2 hl6
      go_wp2_with (at_builtin; refine Wd.wpList_appEs w6 rfl (.const (.slice none 0 0)) (.tmp 21) rfl w6.heap.size (.slice none 0 0) [] rfl own6 p0.A p0.n p0.c p0.l rfl E6 hnl hz6 ?_; intro v7 w7 hO7 hg7; obtain ⟨A7, c7, rfl, hE7, hN7⟩ := own_slice hO7 HL6.out HS0.out.wf; have HE7 := Lib.hid hE7; have HN7 := Lib.hid hN7; have HG := Lib.hid hg7; have HX7 := Lib.hid (HX6.out.grown hg7 (by simp [Value.ownBlock])); obtain ⟨e2, f2⟩ := And.intro (HX7.out.cell 2) (HX7.out.free 2); have hx7 := HX7.out.lt; clear hE7 hN7 hg7 hO7 g2 own6 hz6 E6)
      go_roundw
      case rel => exact ⟨1, by go_num, by omega, ⟨p0.g, p0.b, A7, p0.n, c7, p0.l⟩, q1, q2, q3, Lib.hid ⟨by simpa using HX7.out.set 2 (.slice A7 p0.n c7), JI.res7 HT6.out HG.out _, JI.bel7 HT6.out HG.out _, (fun _ => Cp.set ⟨rfl, rfl, rfl, HE7.out⟩ HX7.out), (fun z => by omega), (fun z => by omega), (fun z => by omega), (fun _ g hg => Nat.le_trans HT6.out.bel.size (HN7.out g hg)), (fun z => by omega), (fun z => by omega), (fun z => by omega)⟩⟩
      case measure => simp [intOf]
    | 1, _ =>
      have bx := HB.out.below HB.out.lt hI.out.bel
      obtain ⟨c0, c1, c2⟩ := And.intro (bx.cell 3) (And.intro (bx.cell 4) (bx.cell 5))
      have hbl := bx.lt
      have hjx := hI.out.box
      obtain ⟨e0, e1, e2, f0, f1, f2⟩ := And.intro (hjx.cell 3) (And.intro (hjx.cell 4) (And.intro (hjx.cell 5) (And.intro (hjx.free 3) (And.intro (hjx.free 4) (hjx.free 5)))))
      have hjl := hjx.lt
      clear bx hjx
      go_upto_region 4 with fail
      go_region
      go_upto_region 6 with fail
      obtain ⟨w6, hw6⟩ : ∃ w6, w6 = ((((wr.setCell ⟨w.heap.size + 1, 3, none⟩ (.int .i64 p1.g)).setCell ⟨w.heap.size + 1, 4, none⟩ (.int .i64 p1.b)).setCell ⟨w.heap.size + 1, 5, none⟩ (.slice p1.A p1.n p1.c)).alloc (.cells #[.int .i64 p1.g, .int .i64 p1.b, .slice p1.A p1.n p1.c] 51)).drew := ⟨_, rfl⟩
      rw [← hw6]
      have T6 := JI.six hI.out p1 hw6
      have X6 : Bx w6 (w.heap.size + 1) 27 #[.int .i64 q0.g, .int .i64 q0.b, .slice q0.A q0.n q0.c, .int .i64 p1.g, .int .i64 p1.b, .slice p1.A p1.n p1.c, .int .i64 q2.g, .int .i64 q2.b, .slice q2.A q2.n q2.c, .int .i64 q3.g, .int .i64 q3.b, .slice q3.A q3.n q3.c] := by simpa using T6.box
      have g2 := T6.new.cell 2
      have E6 := T6.es HS1.out
      have hl6 := E6.len
      have own6 := World.ownsRow_nil w6 w6.heap.size 32 7
      have hz6 := Nat.le_refl w6.heap.size
      have HT6 := Lib.hid T6
      have HX6 := Lib.hid X6
      have HL6 := Lib.hid hl6
      have hnl : ([] : List En).length + p1.l.length ≤ 1000000 := by rw [← hl6]; simp; omega
      clear hw6 T6 X6 c0 c1 c2 e0 e1 e2 f0 f1 f2 hl6
      go_wp2_with (at_builtin; refine Wd.wpList_appEs w6 rfl (.const (.slice none 0 0)) (.tmp 21) rfl w6.heap.size (.slice none 0 0) [] rfl own6 p1.A p1.n p1.c p1.l rfl E6 hnl hz6 ?_; intro v7 w7 hO7 hg7; obtain ⟨A7, c7, rfl, hE7, hN7⟩ := own_slice hO7 HL6.out HS1.out.wf; have HE7 := Lib.hid hE7; have HN7 := Lib.hid hN7; have HG := Lib.hid hg7; have HX7 := Lib.hid (HX6.out.grown hg7 (by simp [Value.ownBlock])); obtain ⟨e2, f2⟩ := And.intro (HX7.out.cell 5) (HX7.out.free 5); have hx7 := HX7.out.lt; clear hE7 hN7 hg7 hO7 g2 own6 hz6 E6)
      go_roundw
      case rel => exact ⟨2, by go_num, by omega, q0, ⟨p1.g, p1.b, A7, p1.n, c7, p1.l⟩, q2, q3, Lib.hid ⟨by simpa using HX7.out.set 5 (.slice A7 p1.n c7), JI.res7 HT6.out HG.out _, JI.bel7 HT6.out HG.out _, (fun _ => Cp.set (Cp.grown (Cp.mv (hI.out.d0 (by omega)) hI.out HT6.out) HG.out) HX7.out), (fun _ => Cp.set ⟨rfl, rfl, rfl, HE7.out⟩ HX7.out), (fun z => by omega), (fun z => by omega), (fun _ => hI.out.n0 (by omega)), (fun _ g hg => Nat.le_trans HT6.out.bel.size (HN7.out g hg)), (fun z => by omega), (fun z => by omega)⟩⟩
      case measure => simp [intOf]
    | 2, _ =>
      have bx := HB.out.below HB.out.lt hI.out.bel
      obtain ⟨c0, c1, c2⟩ := And.intro (bx.cell 6) (And.intro (bx.cell 7) (bx.cell 8))
      have hbl := bx.lt
      have hjx := hI.out.box
      obtain ⟨e0, e1, e2, f0, f1, f2⟩ := And.intro (hjx.cell 6) (And.intro (hjx.cell 7) (And.intro (hjx.cell 8) (And.intro (hjx.free 6) (And.intro (hjx.free 7) (hjx.free 8)))))
      have hjl := hjx.lt
      clear bx hjx
      go_upto_region 4 with fail
      go_region
      go_upto_region 6 with fail
      obtain ⟨w6, hw6⟩ : ∃ w6, w6 = ((((wr.setCell ⟨w.heap.size + 1, 6, none⟩ (.int .i64 p2.g)).setCell ⟨w.heap.size + 1, 7, none⟩ (.int .i64 p2.b)).setCell ⟨w.heap.size + 1, 8, none⟩ (.slice p2.A p2.n p2.c)).alloc (.cells #[.int .i64 p2.g, .int .i64 p2.b, .slice p2.A p2.n p2.c] 51)).drew := ⟨_, rfl⟩
      rw [← hw6]
      have T6 := JI.six hI.out p2 hw6
      have X6 : Bx w6 (w.heap.size + 1) 27 #[.int .i64 q0.g, .int .i64 q0.b, .slice q0.A q0.n q0.c, .int .i64 q1.g, .int .i64 q1.b, .slice q1.A q1.n q1.c, .int .i64 p2.g, .int .i64 p2.b, .slice p2.A p2.n p2.c, .int .i64 q3.g, .int .i64 q3.b, .slice q3.A q3.n q3.c] := by simpa using T6.box
      have g2 := T6.new.cell 2
      have E6 := T6.es HS2.out
      have hl6 := E6.len
      have own6 := World.ownsRow_nil w6 w6.heap.size 32 7
      have hz6 := Nat.le_refl w6.heap.size
      have HT6 := Lib.hid T6
      have HX6 := Lib.hid X6
      have HL6 := Lib.hid hl6
      have hnl : ([] : List En).length + p2.l.length ≤ 1000000 := by rw [← hl6]; simp; omega
      clear hw6 T6 X6 c0 c1 c2 e0 e1 e2 f0 f1 f2 hl6
      go_wp2_with (at_builtin; refine Wd.wpList_appEs w6 rfl (.const (.slice none 0 0)) (.tmp 21) rfl w6.heap.size (.slice none 0 0) [] rfl own6 p2.A p2.n p2.c p2.l rfl E6 hnl hz6 ?_; intro v7 w7 hO7 hg7; obtain ⟨A7, c7, rfl, hE7, hN7⟩ := own_slice hO7 HL6.out HS2.out.wf; have HE7 := Lib.hid hE7; have HN7 := Lib.hid hN7; have HG := Lib.hid hg7; have HX7 := Lib.hid (HX6.out.grown hg7 (by simp [Value.ownBlock])); obtain ⟨e2, f2⟩ := And.intro (HX7.out.cell 8) (HX7.out.free 8); have hx7 := HX7.out.lt; clear hE7 hN7 hg7 hO7 g2 own6 hz6 E6)
      go_roundw
      case rel => exact ⟨3, by go_num, by omega, q0, q1, ⟨p2.g, p2.b, A7, p2.n, c7, p2.l⟩, q3, Lib.hid ⟨by simpa using HX7.out.set 8 (.slice A7 p2.n c7), JI.res7 HT6.out HG.out _, JI.bel7 HT6.out HG.out _, (fun _ => Cp.set (Cp.grown (Cp.mv (hI.out.d0 (by omega)) hI.out HT6.out) HG.out) HX7.out), (fun _ => Cp.set (Cp.grown (Cp.mv (hI.out.d1 (by omega)) hI.out HT6.out) HG.out) HX7.out), (fun _ => Cp.set ⟨rfl, rfl, rfl, HE7.out⟩ HX7.out), (fun z => by omega), (fun _ => hI.out.n0 (by omega)), (fun _ => hI.out.n1 (by omega)), (fun _ g hg => Nat.le_trans HT6.out.bel.size (HN7.out g hg)), (fun z => by omega)⟩⟩
      case measure => simp [intOf]
    | 3, _ =>
      have bx := HB.out.below HB.out.lt hI.out.bel
      obtain ⟨c0, c1, c2⟩ := And.intro (bx.cell 9) (And.intro (bx.cell 10) (bx.cell 11))
      have hbl := bx.lt
      have hjx := hI.out.box
      obtain ⟨e0, e1, e2, f0, f1, f2⟩ := And.intro (hjx.cell 9) (And.intro (hjx.cell 10) (And.intro (hjx.cell 11) (And.intro (hjx.free 9) (And.intro (hjx.free 10) (hjx.free 11)))))
      have hjl := hjx.lt
      clear bx hjx
      go_upto_region 4 with fail
      go_region
      go_upto_region 6 with fail
      obtain ⟨w6, hw6⟩ : ∃ w6, w6 = ((((wr.setCell ⟨w.heap.size + 1, 9, none⟩ (.int .i64 p3.g)).setCell ⟨w.heap.size + 1, 10, none⟩ (.int .i64 p3.b)).setCell ⟨w.heap.size + 1, 11, none⟩ (.slice p3.A p3.n p3.c)).alloc (.cells #[.int .i64 p3.g, .int .i64 p3.b, .slice p3.A p3.n p3.c] 51)).drew := ⟨_, rfl⟩
      rw [← hw6]
      have T6 := JI.six hI.out p3 hw6
      have X6 : Bx w6 (w.heap.size + 1) 27 #[.int .i64 q0.g, .int .i64 q0.b, .slice q0.A q0.n q0.c, .int .i64 q1.g, .int .i64 q1.b, .slice q1.A q1.n q1.c, .int .i64 q2.g, .int .i64 q2.b, .slice q2.A q2.n q2.c, .int .i64 p3.g, .int .i64 p3.b, .slice p3.A p3.n p3.c] := by simpa using T6.box
      have g2 := T6.new.cell 2
      have E6 := T6.es HS3.out
      have hl6 := E6.len
      have own6 := World.ownsRow_nil w6 w6.heap.size 32 7
      have hz6 := Nat.le_refl w6.heap.size
      have HT6 := Lib.hid T6
      have HX6 := Lib.hid X6
      have HL6 := Lib.hid hl6
      have hnl : ([] : List En).length + p3.l.length ≤ 1000000 := by rw [← hl6]; simp; omega
      clear hw6 T6 X6 c0 c1 c2 e0 e1 e2 f0 f1 f2 hl6
      go_wp2_with (at_builtin; refine Wd.wpList_appEs w6 rfl (.const (.slice none 0 0)) (.tmp 21) rfl w6.heap.size (.slice none 0 0) [] rfl own6 p3.A p3.n p3.c p3.l rfl E6 hnl hz6 ?_; intro v7 w7 hO7 hg7; obtain ⟨A7, c7, rfl, hE7, hN7⟩ := own_slice hO7 HL6.out HS3.out.wf; have HE7 := Lib.hid hE7; have HN7 := Lib.hid hN7; have HG := Lib.hid hg7; have HX7 := Lib.hid (HX6.out.grown hg7 (by simp [Value.ownBlock])); obtain ⟨e2, f2⟩ := And.intro (HX7.out.cell 11) (HX7.out.free 11); have hx7 := HX7.out.lt; clear hE7 hN7 hg7 hO7 g2 own6 hz6 E6)
      go_roundw
      case rel => exact ⟨4, by go_num, by omega, q0, q1, q2, ⟨p3.g, p3.b, A7, p3.n, c7, p3.l⟩, Lib.hid ⟨by simpa using HX7.out.set 11 (.slice A7 p3.n c7), JI.res7 HT6.out HG.out _, JI.bel7 HT6.out HG.out _, (fun _ => Cp.set (Cp.grown (Cp.mv (hI.out.d0 (by omega)) hI.out HT6.out) HG.out) HX7.out), (fun _ => Cp.set (Cp.grown (Cp.mv (hI.out.d1 (by omega)) hI.out HT6.out) HG.out) HX7.out), (fun _ => Cp.set (Cp.grown (Cp.mv (hI.out.d2 (by omega)) hI.out HT6.out) HG.out) HX7.out), (fun _ => Cp.set ⟨rfl, rfl, rfl, HE7.out⟩ HX7.out), (fun _ => hI.out.n0 (by omega)), (fun _ => hI.out.n1 (by omega)), (fun _ => hI.out.n2 (by omega)), (fun _ g hg => Nat.le_trans HT6.out.bel.size (HN7.out g hg))⟩⟩
      case measure => simp [intOf]
-- END ROUNDS
    | 4, _ =>
      obtain ⟨⟨c0, c1, c2, c3, c4, c5, c6, c7, c8, c9, c10, c11⟩, -⟩ := twelve hI.out.box
      obtain ⟨⟨d0, d1, d2, d3, d4, d5, d6, d7, d8, d9, d10, d11⟩, ⟨f0, f1, f2, f3, f4, f5, f6, f7, f8, f9, f10, f11⟩⟩ := twelve hI.out.res
      have hz := hI.out.box.lt
      go_wp2_with fail
      refine bodyPost_ret (v := .agg #[.int .i64 q0.g, .int .i64 q0.b, .slice q0.A q0.n q0.c, .int .i64 q1.g, .int .i64 q1.b, .slice q1.A q1.n q1.c, .int .i64 q2.g, .int .i64 q2.b, .slice q2.A q2.n q2.c, .int .i64 q3.g, .int .i64 q3.b, .slice q3.A q3.n q3.c]) ?_ rfl ⟨q0, q1, q2, q3, rfl, hI.out.done (by omega) HR.out.1 HR.out.2.1 HR.out.2.2.1 HR.out.2.2.2 ?_⟩
      · rw [res_cell1 rfl]; go_simp
      · exact ((((((((((((Wd.Mv.refl (fun g => g = w.heap.size) wr).set (a := ⟨w.heap.size, 0, none⟩) rfl _ ).set (a := ⟨w.heap.size, 1, none⟩) rfl _ ).set (a := ⟨w.heap.size, 2, none⟩) rfl _ ).set (a := ⟨w.heap.size, 3, none⟩) rfl _ ).set (a := ⟨w.heap.size, 4, none⟩) rfl _ ).set (a := ⟨w.heap.size, 5, none⟩) rfl _ ).set (a := ⟨w.heap.size, 6, none⟩) rfl _ ).set (a := ⟨w.heap.size, 7, none⟩) rfl _ ).set (a := ⟨w.heap.size, 8, none⟩) rfl _ ).set (a := ⟨w.heap.size, 9, none⟩) rfl _ ).set (a := ⟨w.heap.size, 10, none⟩) rfl _ ).set (a := ⟨w.heap.size, 11, none⟩) rfl _
end Jr
end Go.Proofs.Ytljgalleiemaaaa
