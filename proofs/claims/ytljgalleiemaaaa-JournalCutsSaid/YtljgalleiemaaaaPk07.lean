/- Package journal: the map of what entries of each kind do. Package journal: one contract for whichever kind of entry; four partitions in memory, and what an entry makes of them. -/
import Derived.Carry
import Derived.MapKept
import Derived.Test.YtljgalleiemaaaaPk05
import Derived.Test.YtljgalleiemaaaaPk06
namespace Go.Proofs.Ytljgalleiemaaaa
set_option maxRecDepth 20000
open Go.RowKit Go.MapKept
namespace Jr
def fC : Value := .func (.func 32) #[] #[]
def fD : Value := .func (.func 33) #[] #[]
def fB : Value := .func (.func 34) #[] #[]
/-- The map, with its first entries. -/
def es1 : Array MapEntry := #[{ key := .int .i64 1, val := fC, born := 0 }]
def es2 : Array MapEntry := #[{ key := .int .i64 1, val := fC, born := 0 }, { key := .int .i64 2, val := fD, born := 1 }]
def es3 : Array MapEntry := #[{ key := .int .i64 1, val := fC, born := 0 }, { key := .int .i64 2, val := fD, born := 1 }, { key := .int .i64 3, val := fB, born := 2 }]
/-- Block m is that map. -/
def Mp (w : World) (m : Nat) : Prop := w.heap[m]? = some (.map es3 3)
theorem Mp.lt {w : World} {m : Nat} (h : Mp w m) : m < w.heap.size := lt_of_block h
theorem Mp.below {w w' : World} {m B : Nat} (h : Mp w m) (hm : m < B) (hb : Below B w w') : Mp w' m := (hb.block m hm).trans h
def mput (w : World) (m : Nat) (o : Obj) : World := { w with heap := w.heap.setIfInBounds m o }
theorem run_ins (w : World) (m : Nat) (es : Array MapEntry) (c : Nat) (k : Int) (v : Value) (h : w.heap[m]? = some (.map es c)) (hf : Instr.findNow (.int .i64) (.int .i64 k) es.toList 0 = some none) :
    (Instr.mapUpdate 56 (.map (some m)) (.int .i64 k) v).run Try.prog w = .ok () (mput w m (.map (es.push { key := .int .i64 k, val := v, born := c }) (c + 1))) := by
  have u := Try.underlying56
  have u3 := Try.underlying3
  have hk : IsKey (.int .i64) (.int .i64 k) := by simp [IsKey]
  simp [Instr.mapUpdate, run_underlying u, Go.MapKept.run_getObj_map h, run_checkKey u3 hk, run_findKey u3 hf, run_setObj_map _ h, Result.andThen, mput]
theorem run_look (w : World) (m : Nat) (k : Int) (v : Value) (h : Mp w m) (i : Nat) (hf : Instr.findNow (.int .i64) (.int .i64 k) es3.toList 0 = some (some (i, v))) :
    (Instr.lookup 56 (.map (some m)) (.int .i64 k) false).run Try.prog w = .ok v w := by
  have u := Try.underlying56
  have u3 := Try.underlying3
  have hk : IsKey (.int .i64) (.int .i64 k) := by simp [IsKey]
  unfold Mp at h
  simp [Instr.lookup, run_underlying u, Go.MapKept.run_getObj_map h, run_checkKey u3 hk, run_findKey u3 hf, Result.andThen]
theorem mput_at {w : World} {m : Nat} (o : Obj) (h : m < w.heap.size) : (mput w m o).heap[m]? = some o := by simp [mput, h]
theorem mput_below {B : Nat} {a w : World} {m : Nat} (o : Obj) (h : Below B a w) (hm : B ≤ m) : Below B a (mput w m o) :=
  ⟨h.os, h.tape, h.output, by simpa [mput] using h.size, fun g hg => by
    refine Eq.trans ?_ (h.block g hg)
    simp [mput, Array.getElem?_setIfInBounds_ne (show m ≠ g by omega)]⟩
theorem effects_any (w : World) : Calls Try.prog 19 #[] w fun e w' => e = .returned (.map (some w.heap.size)) ∧ Mp w' w.heap.size ∧ Below w.heap.size w w' := by
  have hmm := @run_makeMap Try.prog
  obtain ⟨w0, h0⟩ : ∃ w0, w0 = w.alloc (.map #[] 0) := ⟨_, rfl⟩
  have b0 : Below w.heap.size w w0 := by rw [h0]; exact (Below.refl _ _).alloc (Nat.le_refl _) _
  have l0 : w.heap.size < w0.heap.size := by rw [h0]; simp
  have r1 := run_ins w0 w.heap.size #[] 0 1 fC (by rw [h0]; exact heap_alloc_new w _) rfl
  obtain ⟨w1, h1⟩ : ∃ w1, w1 = mput w0 w.heap.size (.map (#[].push { key := .int .i64 1, val := fC, born := 0 }) (0 + 1)) := ⟨_, rfl⟩
  have b1 : Below w.heap.size w w1 := by rw [h1]; exact mput_below _ b0 (Nat.le_refl _)
  have e1 : w1.heap[w.heap.size]? = some (.map es1 1) := by rw [h1]; exact mput_at _ l0
  have l1 : w.heap.size < w1.heap.size := lt_of_block e1
  rw [← h1] at r1
  have r2 := run_ins w1 w.heap.size es1 1 2 fD e1 rfl
  obtain ⟨w2, h2⟩ : ∃ w2, w2 = mput w1 w.heap.size (.map (es1.push { key := .int .i64 2, val := fD, born := 1 }) (1 + 1)) := ⟨_, rfl⟩
  have b2 : Below w.heap.size w w2 := by rw [h2]; exact mput_below _ b1 (Nat.le_refl _)
  have e2 : w2.heap[w.heap.size]? = some (.map es2 2) := by rw [h2]; exact mput_at _ l1
  have l2 : w.heap.size < w2.heap.size := lt_of_block e2
  rw [← h2] at r2
  have r3 := run_ins w2 w.heap.size es2 2 3 fB e2 rfl
  obtain ⟨w3, h3⟩ : ∃ w3, w3 = mput w2 w.heap.size (.map (es2.push { key := .int .i64 3, val := fB, born := 2 }) (2 + 1)) := ⟨_, rfl⟩
  have b3 : Below w.heap.size w w3 := by rw [h3]; exact mput_below _ b2 (Nat.le_refl _)
  have e3 : Mp w3 w.heap.size := by rw [h3]; exact mput_at _ l2
  rw [← h3] at r3
  unfold fC at r1
  unfold fD at r2
  unfold fB at r3
  rw [h0] at r1
  have B3 := Lib.hid b3
  have E3 := Lib.hid e3
  clear h0 b0 l0 h1 b1 e1 l1 h2 b2 e2 l2 h3 b3 e3
  go_enter Try.func19, Try.ntmps19
  go_wp2_with fail
  go_ret
  exact ⟨rfl, E3.out, B3.out⟩
end Jr
end Go.Proofs.Ytljgalleiemaaaa
namespace Go.Proofs.Ytljgalleiemaaaa
set_option maxRecDepth 20000
open Go.RowKit
namespace Jr
open Jo (En May Wf Rg Pt endOf last app1 Jn)
open Wd (Pv Pc Es Lv Bx)
/-- The function in the map for a kind. -/
def fnK (k : Int) : Nat := if k = 1 then 32 else if k = 2 then 33 else 34
def Goes (f : Nat) : Prop := ∀ (args : Array Value) (w : World), (callFunc f args).run Try.prog w = .ok (.enter f args) w
theorem goes_fn (k : Int) : Goes (fnK k) := by
  unfold fnK
  split
  · exact fun _ _ => by kernel_rfl
  · split
    · exact fun _ _ => by kernel_rfl
    · exact fun _ _ => by kernel_rfl
theorem look_fn {x : En} (hx : May x) {w : World} {m : Nat} (h : Mp w m) : (Instr.lookup 56 (.map (some m)) (.int .i64 x.kind) false).run Try.prog w = .ok (.func (.func (fnK x.kind)) #[] #[]) w := by
  rcases hx.2 with ⟨e, _⟩ | ⟨e, _⟩ | ⟨e, _⟩ <;> rw [e]
  · exact run_look w m 1 fC h 0 rfl
  · exact run_look w m 2 fD h 1 rfl
  · exact run_look w m 3 fB h 2 rfl
theorem fn_any (B b o : Nat) (t : TypeId) (cs : Array Value) (q : Pv) (x : En) (w : World) (hP : Pc w b o t cs q) (hV : Lv w B q.A q.n q.c q.l) (hL : q.l.length ≤ 1000000) (hB : B ≤ w.heap.size) (hnb : 0 < q.c → (Value.slice q.A q.n q.c).ownBlock ≠ some b) (hx : May x) :
    Calls Try.prog (fnK x.kind) #[.pointer (some ⟨b, o, none⟩), .agg #[.int .i64 x.kind, .int .i64 x.part, .int .i64 x.id, .int .i64 x.st, .int .i64 x.en, .int .i64 x.size, .int .i64 x.sum]] w (Eff w B b o t cs q (app1 q.pt x)) := by
  unfold fnK
  rcases hx.2 with ⟨e, _⟩ | ⟨e, _⟩ | ⟨e, _⟩
  · rw [if_pos e]
    exact commit_any B b o t cs q x w hP hV hL hB hnb hx e
  · rw [if_neg (by omega), if_pos e]
    exact drop_any B b o t cs q x w hP hV hnb hx e
  · rw [if_neg (by omega), if_neg (by omega)]
    exact begin_any B b o t cs q x w hP hV hnb hx e
/-- One of four. -/
def sel (p0 p1 p2 p3 : Pv) : Nat → Pv | 0 => p0 | 1 => p1 | 2 => p2 | _ => p3
theorem put_sel {p0 p1 p2 p3 : Pv} (q : Pv) {k : Nat} (hk : k < 4) : ∃ r0 r1 r2 r3, put3 #[.int .i64 p0.g, .int .i64 p0.b, .slice p0.A p0.n p0.c, .int .i64 p1.g, .int .i64 p1.b, .slice p1.A p1.n p1.c, .int .i64 p2.g, .int .i64 p2.b, .slice p2.A p2.n p2.c, .int .i64 p3.g, .int .i64 p3.b, .slice p3.A p3.n p3.c] (k * 3) q = #[.int .i64 r0.g, .int .i64 r0.b, .slice r0.A r0.n r0.c, .int .i64 r1.g, .int .i64 r1.b, .slice r1.A r1.n r1.c, .int .i64 r2.g, .int .i64 r2.b, .slice r2.A r2.n r2.c, .int .i64 r3.g, .int .i64 r3.b, .slice r3.A r3.n r3.c] ∧ [r0.pt, r1.pt, r2.pt, r3.pt] = [p0.pt, p1.pt, p2.pt, p3.pt].set k q.pt ∧ ∀ i, i < 4 → sel r0 r1 r2 r3 i = if i = k then q else sel p0 p1 p2 p3 i := by
  match k, hk with
  | 0, _ => exact ⟨q, p1, p2, p3, rfl, rfl, fun i hi => by match i, hi with | 0, _ => rfl | 1, _ => rfl | 2, _ => rfl | 3, _ => rfl⟩
  | 1, _ => exact ⟨p0, q, p2, p3, rfl, rfl, fun i hi => by match i, hi with | 0, _ => rfl | 1, _ => rfl | 2, _ => rfl | 3, _ => rfl⟩
  | 2, _ => exact ⟨p0, p1, q, p3, rfl, rfl, fun i hi => by match i, hi with | 0, _ => rfl | 1, _ => rfl | 2, _ => rfl | 3, _ => rfl⟩
  | 3, _ => exact ⟨p0, p1, p2, q, rfl, rfl, fun i hi => by match i, hi with | 0, _ => rfl | 1, _ => rfl | 2, _ => rfl | 3, _ => rfl⟩
theorem at_sel {p0 p1 p2 p3 : Pv} {k : Nat} (hk : k < 4) : (#[.int .i64 p0.g, .int .i64 p0.b, .slice p0.A p0.n p0.c, .int .i64 p1.g, .int .i64 p1.b, .slice p1.A p1.n p1.c, .int .i64 p2.g, .int .i64 p2.b, .slice p2.A p2.n p2.c, .int .i64 p3.g, .int .i64 p3.b, .slice p3.A p3.n p3.c] : Array Value)[k * 3]? = some (.int .i64 (sel p0 p1 p2 p3 k).g) ∧ (#[.int .i64 p0.g, .int .i64 p0.b, .slice p0.A p0.n p0.c, .int .i64 p1.g, .int .i64 p1.b, .slice p1.A p1.n p1.c, .int .i64 p2.g, .int .i64 p2.b, .slice p2.A p2.n p2.c, .int .i64 p3.g, .int .i64 p3.b, .slice p3.A p3.n p3.c] : Array Value)[k * 3 + 1]? = some (.int .i64 (sel p0 p1 p2 p3 k).b) ∧ (#[.int .i64 p0.g, .int .i64 p0.b, .slice p0.A p0.n p0.c, .int .i64 p1.g, .int .i64 p1.b, .slice p1.A p1.n p1.c, .int .i64 p2.g, .int .i64 p2.b, .slice p2.A p2.n p2.c, .int .i64 p3.g, .int .i64 p3.b, .slice p3.A p3.n p3.c] : Array Value)[k * 3 + 2]? = some (.slice (sel p0 p1 p2 p3 k).A (sel p0 p1 p2 p3 k).n (sel p0 p1 p2 p3 k).c) := by
  match k, hk with
  | 0, _ => exact ⟨rfl, rfl, rfl⟩
  | 1, _ => exact ⟨rfl, rfl, rfl⟩
  | 2, _ => exact ⟨rfl, rfl, rfl⟩
  | 3, _ => exact ⟨rfl, rfl, rfl⟩
theorem pt_sel {p0 p1 p2 p3 : Pv} {k : Nat} (hk : k < 4) : [p0.pt, p1.pt, p2.pt, p3.pt].getD k default = (sel p0 p1 p2 p3 k).pt := by
  match k, hk with
  | 0, _ => rfl
  | 1, _ => rfl
  | 2, _ => rfl
  | 3, _ => rfl
/-- Four partitions in block b, of the type of partitions; their rows are each other's apart. -/
structure Pm (w : World) (B b : Nat) (p0 p1 p2 p3 : Pv) (j : Jn) : Prop where
  e : j = [p0.pt, p1.pt, p2.pt, p3.pt]
  box : Bx w b 53 #[.int .i64 p0.g, .int .i64 p0.b, .slice p0.A p0.n p0.c, .int .i64 p1.g, .int .i64 p1.b, .slice p1.A p1.n p1.c, .int .i64 p2.g, .int .i64 p2.b, .slice p2.A p2.n p2.c, .int .i64 p3.g, .int .i64 p3.b, .slice p3.A p3.n p3.c]
  lv : ∀ i, i < 4 → Lv w B (sel p0 p1 p2 p3 i).A (sel p0 p1 p2 p3 i).n (sel p0 p1 p2 p3 i).c (sel p0 p1 p2 p3 i).l
  rg : ∀ i, i < 4 → Rg (sel p0 p1 p2 p3 i).g ∧ Rg (sel p0 p1 p2 p3 i).b
  nb : ∀ i, i < 4 → 0 < (sel p0 p1 p2 p3 i).c → (Value.slice (sel p0 p1 p2 p3 i).A (sel p0 p1 p2 p3 i).n (sel p0 p1 p2 p3 i).c).ownBlock ≠ some b
  ap : ∀ i k, i < 4 → k < 4 → i ≠ k → ∀ g, B ≤ g → 0 < (sel p0 p1 p2 p3 i).c → 0 < (sel p0 p1 p2 p3 k).c → (Value.slice (sel p0 p1 p2 p3 i).A (sel p0 p1 p2 p3 i).n (sel p0 p1 p2 p3 i).c).ownBlock = some g → (Value.slice (sel p0 p1 p2 p3 k).A (sel p0 p1 p2 p3 k).n (sel p0 p1 p2 p3 k).c).ownBlock ≠ some g
theorem lv_lt {w : World} {B : Nat} {A : Option Addr} {n c : Nat} {l : List En} (h : Lv w B A n c l) (hc : 0 < c) {g : Nat} (hg : (Value.slice A n c).ownBlock = some g) : g < w.heap.size := by
  rcases h.own with q | q
  · have hl := h.es.len
    obtain ⟨b, o, e, hlt, _⟩ := h.es.at_ 0 (by omega)
    rw [e] at hg
    cases hg
    exact hlt
  · rcases q with ⟨e, _⟩ | ⟨g', cap, pre, suf, e, h1, h2, h3, h4, h5⟩
    · cases e
      cases hg
    · rw [e] at hg
      cases hg
      exact h5.lt
theorem Pm.pc {w : World} {B b : Nat} {p0 p1 p2 p3 : Pv} {j : Jn} (h : Pm w B b p0 p1 p2 p3 j) {k : Nat} (hk : k < 4) : Pc w b (k * 3) 53 #[.int .i64 p0.g, .int .i64 p0.b, .slice p0.A p0.n p0.c, .int .i64 p1.g, .int .i64 p1.b, .slice p1.A p1.n p1.c, .int .i64 p2.g, .int .i64 p2.b, .slice p2.A p2.n p2.c, .int .i64 p3.g, .int .i64 p3.b, .slice p3.A p3.n p3.c] (sel p0 p1 p2 p3 k) :=
  ⟨h.box, (at_sel hk).1, (at_sel hk).2.1, (at_sel hk).2.2, (h.rg k hk).1, (h.rg k hk).2⟩
theorem Pm.keep {w w' : World} {B b : Nat} {p0 p1 p2 p3 : Pv} {j : Jn} (h : Pm w B b p0 p1 p2 p3 j) (hb : Below w.heap.size w w') : Pm w' B b p0 p1 p2 p3 j :=
  ⟨h.e, h.box.below h.box.lt hb, fun i hi => (h.lv i hi).below hb, h.rg, h.nb, h.ap⟩
theorem Pm.step {w w' : World} {B b : Nat} {p0 p1 p2 p3 : Pv} {j : Jn} {k : Nat} {e : Ending} {r : Option Pt} {p : Pt} (h : Pm w B b p0 p1 p2 p3 j) (hk : k < 4) (he : Eff w B b (k * 3) 53 #[.int .i64 p0.g, .int .i64 p0.b, .slice p0.A p0.n p0.c, .int .i64 p1.g, .int .i64 p1.b, .slice p1.A p1.n p1.c, .int .i64 p2.g, .int .i64 p2.b, .slice p2.A p2.n p2.c, .int .i64 p3.g, .int .i64 p3.b, .slice p3.A p3.n p3.c] (sel p0 p1 p2 p3 k) r e w') (hr : r = some p) (hBb : B ≤ b) (hBw : B ≤ w.heap.size) :
    e = .returned (.int .i64 0) ∧ (Below B w w' ∧ Wd.Mv (fun g => g = b ∨ ((sel p0 p1 p2 p3 k).n < (sel p0 p1 p2 p3 k).c ∧ B ≤ g ∧ (Value.slice (sel p0 p1 p2 p3 k).A (sel p0 p1 p2 p3 k).n (sel p0 p1 p2 p3 k).c).ownBlock = some g)) w w') ∧ ∃ r0 r1 r2 r3, Pm w' B b r0 r1 r2 r3 (j.set k p) := by
  obtain ⟨e0, q, hq, hP, hV, hM, hN⟩ := he.2 p hr
  obtain ⟨r0, r1, r2, r3, ea, ep, es⟩ := put_sel (p0 := p0) (p1 := p1) (p2 := p2) (p3 := p3) q hk
  have hbl := h.box.lt
  have own : ∀ i, i < 4 → i ≠ k → 0 < (sel p0 p1 p2 p3 i).c → ∀ g, (Value.slice (sel p0 p1 p2 p3 i).A (sel p0 p1 p2 p3 i).n (sel p0 p1 p2 p3 i).c).ownBlock = some g → ¬ (g = b ∨ ((sel p0 p1 p2 p3 k).n < (sel p0 p1 p2 p3 k).c ∧ B ≤ g ∧ (Value.slice (sel p0 p1 p2 p3 k).A (sel p0 p1 p2 p3 k).n (sel p0 p1 p2 p3 k).c).ownBlock = some g)) := by
    rintro i hi hik hc g hg (z | ⟨z1, z2, z3⟩)
    · exact h.nb i hi hc (z ▸ hg)
    · exact h.ap i k hi hk hik g z2 hc (by omega) hg z3
  refine ⟨e0, ⟨hM.below (fun g z => z.elim (fun z => by omega) fun z => z.2.1) hBw, hM⟩, r0, r1, r2, r3, ⟨?_, ?_, fun i hi => ?_, fun i hi => ?_, fun i hi => ?_, fun i m hi hm => ?_⟩⟩
  · rw [ep, h.e, hq]
  · rw [← ea]
    exact hP.box
  · rw [es i hi]
    split
    · exact hV
    · rename_i z
      exact (h.lv i hi).keep hM (own i hi z)
  · rw [es i hi]
    split
    · exact ⟨hP.gr, hP.br⟩
    · exact h.rg i hi
  · rw [es i hi]
    split
    · intro hc z
      rcases hN b hc z with z | z
      · exact h.nb k hk z.1 z.2
      · omega
    · exact h.nb i hi
  · rw [es i hi, es m hm]
    intro him g hg
    split
    · rename_i z
      split
      · omega
      · rename_i z2
        intro c1 c2 g1 g2
        rcases hN g c1 g1 with y | y
        · exact h.ap k m hk hm (fun e => z2 e.symm) g hg y.1 c2 y.2 g2
        · have := lv_lt (h.lv m hm) c2 g2
          omega
    · rename_i z
      split
      · intro c1 c2 g1 g2
        rcases hN g c2 g2 with y | y
        · exact h.ap i k hi hk z g hg c1 y.1 g1 y.2
        · have := lv_lt (h.lv i hi) c1 g1
          omega
      · exact h.ap i m hi hm him g hg
end Jr
end Go.Proofs.Ytljgalleiemaaaa
