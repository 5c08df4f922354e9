/- Package journal: Apply. -/
import Derived.Test.YtljgalleiemaaaaPk08
namespace Go.Proofs.Ytljgalleiemaaaa
set_option maxRecDepth 20000
open Go.RowKit
namespace Jr
open Jo (En May Wf Rg Pt endOf last app1)
open Wd (Pv Pc Es Lv Bx)
theorem below12 {w0 wr : World} {g : Nat} (h : Below w0.heap.size w0 wr) (hg : w0.heap.size ≤ g) (v0 v1 v2 v3 v4 v5 v6 v7 v8 v9 v10 v11 : Value) : Below w0.heap.size w0 (((((((((((((wr).setCell ⟨g, 0, none⟩ v0).setCell ⟨g, 1, none⟩ v1).setCell ⟨g, 2, none⟩ v2).setCell ⟨g, 3, none⟩ v3).setCell ⟨g, 4, none⟩ v4).setCell ⟨g, 5, none⟩ v5).setCell ⟨g, 6, none⟩ v6).setCell ⟨g, 7, none⟩ v7).setCell ⟨g, 8, none⟩ v8).setCell ⟨g, 9, none⟩ v9).setCell ⟨g, 10, none⟩ v10).setCell ⟨g, 11, none⟩ v11) :=
  ((((((((((((h.setCell hg _).setCell hg _).setCell hg _).setCell hg _).setCell hg _).setCell hg _).setCell hg _).setCell hg _).setCell hg _).setCell hg _).setCell hg _).setCell hg _)
/-- What Apply answers. -/
def OutA (w : World) (j : Jo.Jn) (x : En) (e : Ending) (w' : World) : Prop := ∃ q0 q1 q2 q3, e = .returned (.tuple #[.agg #[.int .i64 q0.g, .int .i64 q0.b, .slice q0.A q0.n q0.c, .int .i64 q1.g, .int .i64 q1.b, .slice q1.A q1.n q1.c, .int .i64 q2.g, .int .i64 q2.b, .slice q2.A q2.n q2.c, .int .i64 q3.g, .int .i64 q3.b, .slice q3.A q3.n q3.c], .int .i64 (Jo.appE j x)]) ∧ (Jv w' q0 q1 q2 q3 ((Jo.app j x).getD Jo.nil_) ∧ Nw w.heap.size q0 q1 q2 q3) ∧ Below w.heap.size w w'
/-- .. and that it is the empty journal where the entry can't be applied. -/
def OutB (w : World) (j : Jo.Jn) (x : En) (e : Ending) (w' : World) : Prop := ∃ q0 q1 q2 q3, e = .returned (.tuple #[.agg #[.int .i64 q0.g, .int .i64 q0.b, .slice q0.A q0.n q0.c, .int .i64 q1.g, .int .i64 q1.b, .slice q1.A q1.n q1.c, .int .i64 q2.g, .int .i64 q2.b, .slice q2.A q2.n q2.c, .int .i64 q3.g, .int .i64 q3.b, .slice q3.A q3.n q3.c], .int .i64 (Jo.appE j x)]) ∧ (Jv w' q0 q1 q2 q3 ((Jo.app j x).getD Jo.nil_) ∧ Nw w.heap.size q0 q1 q2 q3) ∧ Below w.heap.size w w' ∧ (Jo.app j x = none → q0 = default ∧ q1 = default ∧ q2 = default ∧ q3 = default)
theorem jv_nil (w : World) : Jv w default default default default Jo.nil_ := ⟨rfl, Es.none_ w, Es.none_ w, Es.none_ w, Es.none_ w, by simp [Rg, default], by simp [Rg, default], by simp [Rg, default], by simp [Rg, default]⟩
theorem outA_no {w w' : World} {j : Jo.Jn} {x : En} {er : Int} (h1 : Jo.app j x = none) (h2 : Jo.appE j x = er) (h : Below w.heap.size w w') : OutB w j x (.returned (.tuple #[.agg #[.int .i64 0, .int .i64 0, .slice none 0 0, .int .i64 0, .int .i64 0, .slice none 0 0, .int .i64 0, .int .i64 0, .slice none 0 0, .int .i64 0, .int .i64 0, .slice none 0 0], .int .i64 er])) w' :=
  ⟨default, default, default, default, by rw [h2]; rfl, ⟨by rw [h1]; exact jv_nil w', nws_nil _⟩, h, fun _ => ⟨rfl, rfl, rfl, rfl⟩⟩
theorem Jv.sel {w : World} {p0 p1 p2 p3 : Pv} {j : Jo.Jn} (h : Jv w p0 p1 p2 p3 j) (i : Nat) : Es w (sel p0 p1 p2 p3 i).A (sel p0 p1 p2 p3 i).n (sel p0 p1 p2 p3 i).c (sel p0 p1 p2 p3 i).l ∧ Rg (sel p0 p1 p2 p3 i).g ∧ Rg (sel p0 p1 p2 p3 i).b := by
  unfold Jr.sel
  split
  · exact ⟨h.s0, h.r0⟩
  · exact ⟨h.s1, h.r1⟩
  · exact ⟨h.s2, h.r2⟩
  · exact ⟨h.s3, h.r3⟩
/-- A partition whose list is full. -/
@[reducible] def clp (p : Pv) : Pv := ⟨p.g, p.b, p.A, p.n, p.n, p.l⟩
theorem sel_clp {p0 p1 p2 p3 : Pv} (i : Nat) : sel (clp p0) (clp p1) (clp p2) (clp p3) i = clp (sel p0 p1 p2 p3 i) := by
  unfold sel
  split <;> rfl
theorem es_clp {w : World} {p : Pv} (h : Es w p.A p.n p.c p.l) : Es w p.A p.n p.n p.l :=
  ⟨h.len, Nat.le_refl _, Nat.le_trans h.cap h.max, fun e => by have := h.nil e; have := h.cap; omega, h.at_, h.wf⟩
theorem Pm.clip {w w4 : World} {b : Nat} {p0 p1 p2 p3 : Pv} {j : Jo.Jn} (h : Jv w p0 p1 p2 p3 j) (hb : Below w.heap.size w w4) (hx : Bx w4 b 53 #[.int .i64 p0.g, .int .i64 p0.b, .slice p0.A p0.n p0.n, .int .i64 p1.g, .int .i64 p1.b, .slice p1.A p1.n p1.n, .int .i64 p2.g, .int .i64 p2.b, .slice p2.A p2.n p2.n, .int .i64 p3.g, .int .i64 p3.b, .slice p3.A p3.n p3.n]) (hwb : w.heap.size ≤ b) : Pm w4 w.heap.size b (clp p0) (clp p1) (clp p2) (clp p3) j := by
  have lt : ∀ i, 0 < (sel p0 p1 p2 p3 i).n → ∀ g, (Value.slice (sel p0 p1 p2 p3 i).A (sel p0 p1 p2 p3 i).n (sel p0 p1 p2 p3 i).n).ownBlock = some g → g < w.heap.size := by
    intro i hi g hg
    have hs := (h.sel i).1
    have hl := hs.len
    obtain ⟨b, o, e, hlt, _⟩ := hs.at_ 0 (by omega)
    rw [e] at hg
    cases hg
    exact hlt
  refine ⟨h.e, hx, fun i _ => ?_, fun i _ => ?_, fun i _ => ?_, fun i k _ _ _ g hg => ?_⟩
  · rw [sel_clp]
    exact ⟨es_clp (p := sel p0 p1 p2 p3 i) ((h.sel i).1.below hb), .inl rfl⟩
  · rw [sel_clp]
    exact (h.sel i).2
  · rw [sel_clp]
    intro hc z
    have := lt i hc b z
    omega
  · rw [sel_clp]
    intro c1 _ z
    have := lt i c1 g z
    omega
theorem Pm.jv {w : World} {B b : Nat} {p0 p1 p2 p3 : Pv} {j : Jo.Jn} (h : Pm w B b p0 p1 p2 p3 j) : Jv w p0 p1 p2 p3 j :=
  ⟨h.e, (h.lv 0 (by omega)).es, (h.lv 1 (by omega)).es, (h.lv 2 (by omega)).es, (h.lv 3 (by omega)).es, h.rg 0 (by omega), h.rg 1 (by omega), h.rg 2 (by omega), h.rg 3 (by omega)⟩
theorem seven {w : World} {g : Nat} {t : TypeId} {v0 v1 v2 v3 v4 v5 v6 : Value} (h : Bx w g t #[v0, v1, v2, v3, v4, v5, v6]) : w.cell? ⟨g, 0, none⟩ = some v0 ∧ w.cell? ⟨g, 1, none⟩ = some v1 ∧ w.cell? ⟨g, 2, none⟩ = some v2 ∧ w.cell? ⟨g, 3, none⟩ = some v3 ∧ w.cell? ⟨g, 4, none⟩ = some v4 ∧ w.cell? ⟨g, 5, none⟩ = some v5 ∧ w.cell? ⟨g, 6, none⟩ = some v6 :=
  ⟨h.cell 0, h.cell 1, h.cell 2, h.cell 3, h.cell 4, h.cell 5, h.cell 6⟩
/-- The lists are not too long. -/
def Len (p0 p1 p2 p3 : Pv) (m : Nat) : Prop := p0.n ≤ m ∧ p1.n ≤ m ∧ p2.n ≤ m ∧ p3.n ≤ m
theorem jv_set12 {wr : World} {g : Nat} {q0 q1 q2 q3 : Pv} {j : Jo.Jn} {v0 v1 v2 v3 v4 v5 v6 v7 v8 v9 v10 v11 : Value} (h : Jv wr q0 q1 q2 q3 j) (hb : Bx wr g 27 #[.int .i64 0, .int .i64 0, .slice none 0 0, .int .i64 0, .int .i64 0, .slice none 0 0, .int .i64 0, .int .i64 0, .slice none 0 0, .int .i64 0, .int .i64 0, .slice none 0 0]) : Jv (((((((((((((wr).setCell ⟨g, 0, none⟩ v0).setCell ⟨g, 1, none⟩ v1).setCell ⟨g, 2, none⟩ v2).setCell ⟨g, 3, none⟩ v3).setCell ⟨g, 4, none⟩ v4).setCell ⟨g, 5, none⟩ v5).setCell ⟨g, 6, none⟩ v6).setCell ⟨g, 7, none⟩ v7).setCell ⟨g, 8, none⟩ v8).setCell ⟨g, 9, none⟩ v9).setCell ⟨g, 10, none⟩ v10).setCell ⟨g, 11, none⟩ v11) q0 q1 q2 q3 j := by
  have mv : Wd.Mv (fun x => x = g) wr (((((((((((((wr).setCell ⟨g, 0, none⟩ v0).setCell ⟨g, 1, none⟩ v1).setCell ⟨g, 2, none⟩ v2).setCell ⟨g, 3, none⟩ v3).setCell ⟨g, 4, none⟩ v4).setCell ⟨g, 5, none⟩ v5).setCell ⟨g, 6, none⟩ v6).setCell ⟨g, 7, none⟩ v7).setCell ⟨g, 8, none⟩ v8).setCell ⟨g, 9, none⟩ v9).setCell ⟨g, 10, none⟩ v10).setCell ⟨g, 11, none⟩ v11) := ((((((((((((Wd.Mv.refl (fun x => x = g) wr).set (a := ⟨g, 0, none⟩) rfl _).set (a := ⟨g, 1, none⟩) rfl _).set (a := ⟨g, 2, none⟩) rfl _).set (a := ⟨g, 3, none⟩) rfl _).set (a := ⟨g, 4, none⟩) rfl _).set (a := ⟨g, 5, none⟩) rfl _).set (a := ⟨g, 6, none⟩) rfl _).set (a := ⟨g, 7, none⟩) rfl _).set (a := ⟨g, 8, none⟩) rfl _).set (a := ⟨g, 9, none⟩) rfl _).set (a := ⟨g, 10, none⟩) rfl _).set (a := ⟨g, 11, none⟩) rfl _
  have key : ∀ q : Pv, Es wr q.A q.n q.c q.l → Es (((((((((((((wr).setCell ⟨g, 0, none⟩ v0).setCell ⟨g, 1, none⟩ v1).setCell ⟨g, 2, none⟩ v2).setCell ⟨g, 3, none⟩ v3).setCell ⟨g, 4, none⟩ v4).setCell ⟨g, 5, none⟩ v5).setCell ⟨g, 6, none⟩ v6).setCell ⟨g, 7, none⟩ v7).setCell ⟨g, 8, none⟩ v8).setCell ⟨g, 9, none⟩ v9).setCell ⟨g, 10, none⟩ v10).setCell ⟨g, 11, none⟩ v11) q.A q.n q.c q.l := fun q c => c.keep mv (es_ne (p0 := default) (p1 := default) (p2 := default) (p3 := default) c hb)
  exact ⟨h.e, key _ h.s0, key _ h.s1, key _ h.s2, key _ h.s3, h.r0, h.r1, h.r2, h.r3⟩
theorem outA_yes {w w' : World} {j : Jo.Jn} {x : En} {r : Pt} {p0 p1 p2 p3 q0 q1 q2 q3 : Pv} (hm : May x) (he : j = [p0.pt, p1.pt, p2.pt, p3.pt]) (hk : x.part.toNat < 4) (hr : app1 (sel p0 p1 p2 p3 x.part.toNat).pt x = some r) (hJ : Jv w' q0 q1 q2 q3 (j.set x.part.toNat r)) (hN : Nw w.heap.size q0 q1 q2 q3) (h : Below w.heap.size w w') : OutB w j x (.returned (.tuple #[.agg #[.int .i64 q0.g, .int .i64 q0.b, .slice q0.A q0.n q0.c, .int .i64 q1.g, .int .i64 q1.b, .slice q1.A q1.n q1.c, .int .i64 q2.g, .int .i64 q2.b, .slice q2.A q2.n q2.c, .int .i64 q3.g, .int .i64 q3.b, .slice q3.A q3.n q3.c], .int .i64 0])) w' := by
  have e : app1 (j.getD x.part.toNat default) x = some r := by rw [he, pt_sel hk]; exact hr
  have e1 : Jo.app j x = some (j.set x.part.toNat r) := by unfold Jo.app; rw [if_pos hm, e]; rfl
  have e2 : Jo.appE j x = 0 := by unfold Jo.appE; rw [if_pos hm, e]; rfl
  exact ⟨q0, q1, q2, q3, by rw [e2], ⟨by rw [e1]; exact hJ, hN⟩, h, fun z => by rw [e1] at z; cases z⟩
theorem app_no {j : Jo.Jn} {x : En} {p0 p1 p2 p3 : Pv} (he : j = [p0.pt, p1.pt, p2.pt, p3.pt]) (hk : x.part.toNat < 4) (hr : app1 (sel p0 p1 p2 p3 x.part.toNat).pt x = none) : Jo.app j x = none := by
  have e : app1 (j.getD x.part.toNat default) x = none := by rw [he, pt_sel hk]; exact hr
  unfold Jo.app
  rw [e]
  split <;> rfl
theorem appE_no {j : Jo.Jn} {x : En} {p0 p1 p2 p3 : Pv} (hm : May x) (he : j = [p0.pt, p1.pt, p2.pt, p3.pt]) (hk : x.part.toNat < 4) (hr : app1 (sel p0 p1 p2 p3 x.part.toNat).pt x = none) : Jo.appE j x = 5 := by
  have e : app1 (j.getD x.part.toNat default) x = none := by rw [he, pt_sel hk]; exact hr
  unfold Jo.appE
  rw [if_pos hm, e]
  rfl
theorem app1_len {q r : Pt} {x : En} (h : app1 q x = some r) : r.live.length ≤ q.live.length + 1 := by
  unfold app1 at h
  split at h
  · split at h
    · cases h; simp
    · cases h
  · split at h
    · split at h
      · cases h
      · rename_i z
        split at h
        · cases h; rw [z]; simp; omega
        · cases h
    · split at h
      · cases h; simp
      · cases h
theorem len_step {w w6 : World} {p0 p1 p2 p3 r0 r1 r2 r3 : Pv} {j : Jo.Jn} {x : En} {r : Pt} {B b k : Nat} (hj : Jv w p0 p1 p2 p3 j) (hl : Len p0 p1 p2 p3 400000) (hr : app1 (sel p0 p1 p2 p3 k).pt x = some r) (h : Pm w6 B b r0 r1 r2 r3 (j.set k r)) : Len r0 r1 r2 r3 500000 := by
  obtain ⟨l0, l1, l2, l3⟩ := hl
  have m0 := hj.s0.len
  have m1 := hj.s1.len
  have m2 := hj.s2.len
  have m3 := hj.s3.len
  have ls : (sel p0 p1 p2 p3 k).pt.live.length ≤ 400000 := by unfold sel; split <;> simp only [Pv.pt] <;> omega
  have lr := app1_len hr
  have all : ∀ q ∈ j.set k r, q.live.length ≤ 400001 := by
    intro q hq
    rcases List.mem_or_eq_of_mem_set hq with z | z
    · rw [hj.e] at z
      simp only [List.mem_cons, List.not_mem_nil, or_false] at z
      rcases z with rfl | rfl | rfl | rfl <;> simp only [Pv.pt] <;> omega
    · rw [z]; omega
  rw [h.e] at all
  have n0 := (h.lv 0 (by omega)).es.len
  have n1 := (h.lv 1 (by omega)).es.len
  have n2 := (h.lv 2 (by omega)).es.len
  have n3 := (h.lv 3 (by omega)).es.len
  have k0 := all r0.pt (by simp)
  have k1 := all r1.pt (by simp)
  have k2 := all r2.pt (by simp)
  have k3 := all r3.pt (by simp)
  simp only [sel, Pv.pt] at n0 n1 n2 n3 k0 k1 k2 k3
  unfold Len
  omega
theorem step_call {w w4 w' : World} {b : Nat} {p0 p1 p2 p3 : Pv} {j : Jo.Jn} {x : En} {r : Pt} (hj : Jv w p0 p1 p2 p3 j) (hl : Len p0 p1 p2 p3 400000) (hb : Below w.heap.size w w4) (hx : Bx w4 b 53 #[.int .i64 p0.g, .int .i64 p0.b, .slice p0.A p0.n p0.n, .int .i64 p1.g, .int .i64 p1.b, .slice p1.A p1.n p1.n, .int .i64 p2.g, .int .i64 p2.b, .slice p2.A p2.n p2.n, .int .i64 p3.g, .int .i64 p3.b, .slice p3.A p3.n p3.n]) (hwb : w.heap.size ≤ b) (hk : x.part.toNat < 4) (hm : May x) (hr : app1 (sel p0 p1 p2 p3 x.part.toNat).pt x = some r) (h : Below w4.heap.size w4 w') :
    Calls Try.prog (fnK x.kind) #[.pointer (some ⟨b, x.part.toNat * 3, none⟩), .agg #[.int .i64 x.kind, .int .i64 x.part, .int .i64 x.id, .int .i64 x.st, .int .i64 x.en, .int .i64 x.size, .int .i64 x.sum]] w' fun e w'' => e = .returned (.int .i64 0) ∧ Wd.Mv (fun g => g = b) w' w'' ∧ ∃ r0 r1 r2 r3, Pm w'' w.heap.size b r0 r1 r2 r3 (j.set x.part.toNat r) := by
  have P := (Pm.clip hj hb hx hwb).keep h
  have hbw : w.heap.size ≤ w'.heap.size := Nat.le_trans hb.size h.size
  have hsl : (sel (clp p0) (clp p1) (clp p2) (clp p3) x.part.toNat).l.length ≤ 1000000 := by
    rw [sel_clp]
    have hle := (hj.sel x.part.toNat).1.len
    show (sel p0 p1 p2 p3 x.part.toNat).l.length ≤ 1000000
    rw [← hle]
    obtain ⟨l0, l1, l2, l3⟩ := hl
    unfold sel
    split <;> omega
  have C := fn_any w.heap.size b (x.part.toNat * 3) _ _ _ x w' (P.pc hk) (P.lv _ hk) hsl hbw (P.nb _ hk) hm
  refine C.mono fun e w'' he => ?_
  obtain ⟨e0, ⟨_, mv⟩, h3⟩ := P.step hk he (by rw [sel_clp]; exact hr) hwb hbw
  refine ⟨e0, mv.mono fun g z => z.elim id fun z => ?_, h3⟩
  have z1 := z.1
  rw [sel_clp] at z1
  exact absurd z1 (Nat.lt_irrefl _)
theorem step_call_no {w w4 w' : World} {b : Nat} {p0 p1 p2 p3 : Pv} {j : Jo.Jn} {x : En} (hj : Jv w p0 p1 p2 p3 j) (hl : Len p0 p1 p2 p3 400000) (hb : Below w.heap.size w w4) (hx : Bx w4 b 53 #[.int .i64 p0.g, .int .i64 p0.b, .slice p0.A p0.n p0.n, .int .i64 p1.g, .int .i64 p1.b, .slice p1.A p1.n p1.n, .int .i64 p2.g, .int .i64 p2.b, .slice p2.A p2.n p2.n, .int .i64 p3.g, .int .i64 p3.b, .slice p3.A p3.n p3.n]) (hwb : w.heap.size ≤ b) (hk : x.part.toNat < 4) (hm : May x) (hr : app1 (sel p0 p1 p2 p3 x.part.toNat).pt x = none) (h : Below w4.heap.size w4 w') :
    Calls Try.prog (fnK x.kind) #[.pointer (some ⟨b, x.part.toNat * 3, none⟩), .agg #[.int .i64 x.kind, .int .i64 x.part, .int .i64 x.id, .int .i64 x.st, .int .i64 x.en, .int .i64 x.size, .int .i64 x.sum]] w' fun e w'' => e = .returned (.int .i64 5) ∧ Below w'.heap.size w' w'' := by
  have P := (Pm.clip hj hb hx hwb).keep h
  have hbw : w.heap.size ≤ w'.heap.size := Nat.le_trans hb.size h.size
  have hsl : (sel (clp p0) (clp p1) (clp p2) (clp p3) x.part.toNat).l.length ≤ 1000000 := by
    rw [sel_clp]
    have hle := (hj.sel x.part.toNat).1.len
    show (sel p0 p1 p2 p3 x.part.toNat).l.length ≤ 1000000
    rw [← hle]
    obtain ⟨l0, l1, l2, l3⟩ := hl
    unfold sel
    split <;> omega
  have C := fn_any w.heap.size b (x.part.toNat * 3) _ _ _ x w' (P.pc hk) (P.lv _ hk) hsl hbw (P.nb _ hk) hm
  exact C.mono fun e w'' he => he.1 (by rw [sel_clp]; exact hr)
set_option maxHeartbeats 8000000 in
theorem apply_core (p0 p1 p2 p3 : Pv) (j : Jo.Jn) (x : En) (w : World) (hj : Jv w p0 p1 p2 p3 j) (hl : Len p0 p1 p2 p3 400000) :
    Calls Try.prog 7 #[.agg #[.int .i64 p0.g, .int .i64 p0.b, .slice p0.A p0.n p0.c, .int .i64 p1.g, .int .i64 p1.b, .slice p1.A p1.n p1.c, .int .i64 p2.g, .int .i64 p2.b, .slice p2.A p2.n p2.c, .int .i64 p3.g, .int .i64 p3.b, .slice p3.A p3.n p3.c], .agg #[.int .i64 x.kind, .int .i64 x.part, .int .i64 x.id, .int .i64 x.st, .int .i64 x.en, .int .i64 x.size, .int .i64 x.sum]] w (OutB w j x) := by
  have b1 := alS (alS (alS (Below.refl w.heap.size w) (.cells #[.int .i64 p0.g, .int .i64 p0.b, .slice p0.A p0.n p0.c, .int .i64 p1.g, .int .i64 p1.b, .slice p1.A p1.n p1.c, .int .i64 p2.g, .int .i64 p2.b, .slice p2.A p2.n p2.c, .int .i64 p3.g, .int .i64 p3.b, .slice p3.A p3.n p3.c] 27)) (.cells #[.int .i64 x.kind, .int .i64 x.part, .int .i64 x.id, .int .i64 x.st, .int .i64 x.en, .int .i64 x.size, .int .i64 x.sum] 32)) (.cells #[.int .i64 0, .int .i64 0, .slice none 0 0, .int .i64 0, .int .i64 0, .slice none 0 0, .int .i64 0, .int .i64 0, .slice none 0 0, .int .i64 0, .int .i64 0, .slice none 0 0] 27)
  have z1 : (w.alloc (.cells #[.int .i64 p0.g, .int .i64 p0.b, .slice p0.A p0.n p0.c, .int .i64 p1.g, .int .i64 p1.b, .slice p1.A p1.n p1.c, .int .i64 p2.g, .int .i64 p2.b, .slice p2.A p2.n p2.c, .int .i64 p3.g, .int .i64 p3.b, .slice p3.A p3.n p3.c] 27)).heap.size = w.heap.size + 1 := by simp
  have z2 : ((w.alloc (.cells #[.int .i64 p0.g, .int .i64 p0.b, .slice p0.A p0.n p0.c, .int .i64 p1.g, .int .i64 p1.b, .slice p1.A p1.n p1.c, .int .i64 p2.g, .int .i64 p2.b, .slice p2.A p2.n p2.c, .int .i64 p3.g, .int .i64 p3.b, .slice p3.A p3.n p3.c] 27)).alloc (.cells #[.int .i64 x.kind, .int .i64 x.part, .int .i64 x.id, .int .i64 x.st, .int .i64 x.en, .int .i64 x.size, .int .i64 x.sum] 32)).heap.size = w.heap.size + 1 + 1 := by simp
  have jb := ((Bx.new w 27 #[.int .i64 p0.g, .int .i64 p0.b, .slice p0.A p0.n p0.c, .int .i64 p1.g, .int .i64 p1.b, .slice p1.A p1.n p1.c, .int .i64 p2.g, .int .i64 p2.b, .slice p2.A p2.n p2.c, .int .i64 p3.g, .int .i64 p3.b, .slice p3.A p3.n p3.c]).alloc (.cells #[.int .i64 x.kind, .int .i64 x.part, .int .i64 x.id, .int .i64 x.st, .int .i64 x.en, .int .i64 x.size, .int .i64 x.sum] 32)).alloc (.cells #[.int .i64 0, .int .i64 0, .slice none 0 0, .int .i64 0, .int .i64 0, .slice none 0 0, .int .i64 0, .int .i64 0, .slice none 0 0, .int .i64 0, .int .i64 0, .slice none 0 0] 27)
  have xb := (Bx.new (w.alloc (.cells #[.int .i64 p0.g, .int .i64 p0.b, .slice p0.A p0.n p0.c, .int .i64 p1.g, .int .i64 p1.b, .slice p1.A p1.n p1.c, .int .i64 p2.g, .int .i64 p2.b, .slice p2.A p2.n p2.c, .int .i64 p3.g, .int .i64 p3.b, .slice p3.A p3.n p3.c] 27)) 32 #[.int .i64 x.kind, .int .i64 x.part, .int .i64 x.id, .int .i64 x.st, .int .i64 x.en, .int .i64 x.size, .int .i64 x.sum]).alloc (.cells #[.int .i64 0, .int .i64 0, .slice none 0 0, .int .i64 0, .int .i64 0, .slice none 0 0, .int .i64 0, .int .i64 0, .slice none 0 0, .int .i64 0, .int .i64 0, .slice none 0 0] 27)
  have rb := Bx.new ((w.alloc (.cells #[.int .i64 p0.g, .int .i64 p0.b, .slice p0.A p0.n p0.c, .int .i64 p1.g, .int .i64 p1.b, .slice p1.A p1.n p1.c, .int .i64 p2.g, .int .i64 p2.b, .slice p2.A p2.n p2.c, .int .i64 p3.g, .int .i64 p3.b, .slice p3.A p3.n p3.c] 27)).alloc (.cells #[.int .i64 x.kind, .int .i64 x.part, .int .i64 x.id, .int .i64 x.st, .int .i64 x.en, .int .i64 x.size, .int .i64 x.sum] 32)) 27 #[.int .i64 0, .int .i64 0, .slice none 0 0, .int .i64 0, .int .i64 0, .slice none 0 0, .int .i64 0, .int .i64 0, .slice none 0 0, .int .i64 0, .int .i64 0, .slice none 0 0]
  rw [z1] at xb
  rw [z2] at rb
  obtain ⟨w1, hw1⟩ : ∃ w1, w1 = ((w.alloc (.cells #[.int .i64 p0.g, .int .i64 p0.b, .slice p0.A p0.n p0.c, .int .i64 p1.g, .int .i64 p1.b, .slice p1.A p1.n p1.c, .int .i64 p2.g, .int .i64 p2.b, .slice p2.A p2.n p2.c, .int .i64 p3.g, .int .i64 p3.b, .slice p3.A p3.n p3.c] 27)).alloc (.cells #[.int .i64 x.kind, .int .i64 x.part, .int .i64 x.id, .int .i64 x.st, .int .i64 x.en, .int .i64 x.size, .int .i64 x.sum] 32)).alloc (.cells #[.int .i64 0, .int .i64 0, .slice none 0 0, .int .i64 0, .int .i64 0, .slice none 0 0, .int .i64 0, .int .i64 0, .slice none 0 0, .int .i64 0, .int .i64 0, .slice none 0 0] 27) := ⟨_, rfl⟩
  rw [← hw1] at b1 jb xb rb
  have B1 := Lib.hid b1
  have HJ := Lib.hid hj
  have JB := Lib.hid jb
  have XB := Lib.hid xb
  have RB := Lib.hid rb
  have Hw1 := Lib.hid hw1
  have HL := Lib.hid hl
  have Cm := may_any x w1
  clear hj hl b1 z1 z2 jb xb rb hw1
  by_cases hm : May x
  · rw [tr_yes hm] at Cm
    have Cm := Lib.hid Cm
    have hp := hm.1
    have hp0 : 0 ≤ x.part := by omega
    have hp1 : x.part ≤ 3 := by omega
    have hp2 : x.part < 4 := by omega
    have hk : x.part.toNat < 4 := by omega
    have Hm := Lib.hid hm
    clear hm hp
    obtain ⟨x0, x1, x2, x3, x4, x5, x6⟩ := seven XB.out
    cases hr : app1 (sel p0 p1 p2 p3 x.part.toNat).pt x with
    | none =>
      have Hr := Lib.hid hr
      clear hr
      go_enter Try.func7, Try.ntmps7
      go_upto_region 1 with fail
      rw [← Hw1.out]
      go_wp2_with fail
      refine Cm.out.mono ?_
      rintro e w2 ⟨rfl, hB2⟩
      have B2 := Lib.hid (B1.out.trans (hB2.mono B1.out.size))
      have JB2 := Lib.hid (JB.out.below JB.out.lt hB2)
      have XB2 := Lib.hid (XB.out.below XB.out.lt hB2)
      have RB2 := Lib.hid (RB.out.below RB.out.lt hB2)
      clear hB2 x0 x1 x2 x3 x4 x5 x6
      obtain ⟨⟨d0, d1, d2, d3, d4, d5, d6, d7, d8, d9, d10, d11⟩, -⟩ := twelve JB2.out
      have C3 := Lib.hid (partsOf_any p0 p1 p2 p3 w2 HJ.out.s0.cap HJ.out.s1.cap HJ.out.s2.cap HJ.out.s3.cap)
      go_wp2_with fail
      refine C3.out.mono ?_
      rintro e w3 ⟨rfl, hB3⟩
      have b3 := B2.out.trans (hB3.mono B2.out.size)
      have b4 := alS b3 (.cells #[.int .i64 p0.g, .int .i64 p0.b, .slice p0.A p0.n p0.n, .int .i64 p1.g, .int .i64 p1.b, .slice p1.A p1.n p1.n, .int .i64 p2.g, .int .i64 p2.b, .slice p2.A p2.n p2.n, .int .i64 p3.g, .int .i64 p3.b, .slice p3.A p3.n p3.n] 53)
      have hb34 := (Below.refl w3.heap.size w3).alloc (Nat.le_refl _) (.cells #[.int .i64 p0.g, .int .i64 p0.b, .slice p0.A p0.n p0.n, .int .i64 p1.g, .int .i64 p1.b, .slice p1.A p1.n p1.n, .int .i64 p2.g, .int .i64 p2.b, .slice p2.A p2.n p2.n, .int .i64 p3.g, .int .i64 p3.b, .slice p3.A p3.n p3.n] 53)
      have ab := Bx.new w3 53 #[.int .i64 p0.g, .int .i64 p0.b, .slice p0.A p0.n p0.n, .int .i64 p1.g, .int .i64 p1.b, .slice p1.A p1.n p1.n, .int .i64 p2.g, .int .i64 p2.b, .slice p2.A p2.n p2.n, .int .i64 p3.g, .int .i64 p3.b, .slice p3.A p3.n p3.n]
      have XB4 := Lib.hid ((XB2.out.below XB2.out.lt hB3).below (XB2.out.below XB2.out.lt hB3).lt hb34)
      have RB4 := Lib.hid ((RB2.out.below RB2.out.lt hB3).below (RB2.out.below RB2.out.lt hB3).lt hb34)
      go_upto_region 4 with fail
      obtain ⟨w4, hw4⟩ : ∃ w4, w4 = w3.alloc (.cells #[.int .i64 p0.g, .int .i64 p0.b, .slice p0.A p0.n p0.n, .int .i64 p1.g, .int .i64 p1.b, .slice p1.A p1.n p1.n, .int .i64 p2.g, .int .i64 p2.b, .slice p2.A p2.n p2.n, .int .i64 p3.g, .int .i64 p3.b, .slice p3.A p3.n p3.n] 53) := ⟨_, rfl⟩
      rw [← hw4] at b4 hb34 ab XB4 RB4
      rw [← hw4]
      have CF : Hid (∀ w', Below w4.heap.size w4 w' → Calls Try.prog (fnK x.kind) #[.pointer (some ⟨w3.heap.size, x.part.toNat * 3, none⟩), .agg #[.int .i64 x.kind, .int .i64 x.part, .int .i64 x.id, .int .i64 x.st, .int .i64 x.en, .int .i64 x.size, .int .i64 x.sum]] w' fun e w'' => e = .returned (.int .i64 5) ∧ Below w'.heap.size w' w'') := Lib.hid fun w' h => step_call_no HJ.out HL.out b4 ab b3.size hk Hm.out Hr.out h
      have B4 := Lib.hid b4
      have hgo := goes_fn x.kind
      have hne : ¬ w.heap.size + 1 = w3.heap.size := by have := (RB2.out.below RB2.out.lt hB3).lt; omega
      have hne2 : ¬ w.heap.size + 1 + 1 = w3.heap.size := by have := (RB2.out.below RB2.out.lt hB3).lt; omega
      have hle3 : w.heap.size ≤ w3.heap.size := b3.size
      unfold Goes at hgo
      have z0 := seven (Wd.Bx.drew XB4.out)
      have hw34 : w3.heap.size < w4.heap.size := ab.lt
      clear hb34 hw4 ab b3 b4 d0 d1 d2 d3 d4 d5 d6 d7 d8 d9 d10 d11 hB3
      go_region_held3 (fun w' => w'.cell? ⟨w.heap.size + 1, 0, none⟩ = some (.int .i64 x.kind) ∧ w'.cell? ⟨w.heap.size + 1, 1, none⟩ = some (.int .i64 x.part) ∧ w'.cell? ⟨w.heap.size + 1, 2, none⟩ = some (.int .i64 x.id) ∧ w'.cell? ⟨w.heap.size + 1, 3, none⟩ = some (.int .i64 x.st) ∧ w'.cell? ⟨w.heap.size + 1, 4, none⟩ = some (.int .i64 x.en) ∧ w'.cell? ⟨w.heap.size + 1, 5, none⟩ = some (.int .i64 x.size) ∧ w'.cell? ⟨w.heap.size + 1, 6, none⟩ = some (.int .i64 x.sum)) (with_reducible first | exact z10 | exact z0) (first
        | (go_at_call 19; (with_reducible refine (effects_any _).mono ?_); rintro e w5 ⟨rfl, hM5, hB5⟩; have hb5 : Below w4.heap.size w4 w5 := Wd.of_drew hB5; have hM5 : Mp w5 w4.heap.size := hM5; have z10 := seven (XB4.out.below XB4.out.lt hb5); have hlk := look_fn Hm.out hM5)
        | ((with_reducible refine (CF.out _ hb5).mono ?_); rintro e w6 ⟨rfl, hB6⟩; have XB6 := Lib.hid ((XB4.out.below XB4.out.lt hb5).below (XB4.out.below XB4.out.lt hb5).lt hB6); have z10 := seven XB6.out))
      have RB6 := Lib.hid ((RB4.out.below RB4.out.lt hb5).below (RB4.out.below RB4.out.lt hb5).lt hB6)
      have B6 := Lib.hid ((B4.out.trans (hb5.mono B4.out.size)).trans (hB6.mono (Nat.le_trans B4.out.size hb5.size)))
      clear hB6 hb5 z0 z10 hlk hM5 hgo CF hB5
      obtain ⟨⟨d0, d1, d2, d3, d4, d5, d6, d7, d8, d9, d10, d11⟩, ⟨f0, f1, f2, f3, f4, f5, f6, f7, f8, f9, f10, f11⟩⟩ := twelve RB6.out
      go_wp2_with fail
      refine bodyPost_ret (v := .tuple #[.agg #[.int .i64 0, .int .i64 0, .slice none 0 0, .int .i64 0, .int .i64 0, .slice none 0 0, .int .i64 0, .int .i64 0, .slice none 0 0, .int .i64 0, .int .i64 0, .slice none 0 0], .int .i64 5]) ?_ rfl (outA_no (app_no HJ.out.e hk Hr.out) (appE_no Hm.out HJ.out.e hk Hr.out) ?_)
      · rw [res_cell2 rfl]; go_simp
      · exact below12 B6.out (by omega) _ _ _ _ _ _ _ _ _ _ _ _
    | some r =>
      have Hr := Lib.hid hr
      clear hr
      go_enter Try.func7, Try.ntmps7
      go_upto_region 1 with fail
      rw [← Hw1.out]
      go_wp2_with fail
      refine Cm.out.mono ?_
      rintro e w2 ⟨rfl, hB2⟩
      have B2 := Lib.hid (B1.out.trans (hB2.mono B1.out.size))
      have JB2 := Lib.hid (JB.out.below JB.out.lt hB2)
      have XB2 := Lib.hid (XB.out.below XB.out.lt hB2)
      have RB2 := Lib.hid (RB.out.below RB.out.lt hB2)
      clear hB2 x0 x1 x2 x3 x4 x5 x6
      obtain ⟨⟨d0, d1, d2, d3, d4, d5, d6, d7, d8, d9, d10, d11⟩, -⟩ := twelve JB2.out
      have C3 := Lib.hid (partsOf_any p0 p1 p2 p3 w2 HJ.out.s0.cap HJ.out.s1.cap HJ.out.s2.cap HJ.out.s3.cap)
      go_wp2_with fail
      refine C3.out.mono ?_
      rintro e w3 ⟨rfl, hB3⟩
      have b3 := B2.out.trans (hB3.mono B2.out.size)
      have b4 := alS b3 (.cells #[.int .i64 p0.g, .int .i64 p0.b, .slice p0.A p0.n p0.n, .int .i64 p1.g, .int .i64 p1.b, .slice p1.A p1.n p1.n, .int .i64 p2.g, .int .i64 p2.b, .slice p2.A p2.n p2.n, .int .i64 p3.g, .int .i64 p3.b, .slice p3.A p3.n p3.n] 53)
      have hb34 := (Below.refl w3.heap.size w3).alloc (Nat.le_refl _) (.cells #[.int .i64 p0.g, .int .i64 p0.b, .slice p0.A p0.n p0.n, .int .i64 p1.g, .int .i64 p1.b, .slice p1.A p1.n p1.n, .int .i64 p2.g, .int .i64 p2.b, .slice p2.A p2.n p2.n, .int .i64 p3.g, .int .i64 p3.b, .slice p3.A p3.n p3.n] 53)
      have ab := Bx.new w3 53 #[.int .i64 p0.g, .int .i64 p0.b, .slice p0.A p0.n p0.n, .int .i64 p1.g, .int .i64 p1.b, .slice p1.A p1.n p1.n, .int .i64 p2.g, .int .i64 p2.b, .slice p2.A p2.n p2.n, .int .i64 p3.g, .int .i64 p3.b, .slice p3.A p3.n p3.n]
      have XB4 := Lib.hid ((XB2.out.below XB2.out.lt hB3).below (XB2.out.below XB2.out.lt hB3).lt hb34)
      have RB4 := Lib.hid ((RB2.out.below RB2.out.lt hB3).below (RB2.out.below RB2.out.lt hB3).lt hb34)
      go_upto_region 4 with fail
      obtain ⟨w4, hw4⟩ : ∃ w4, w4 = w3.alloc (.cells #[.int .i64 p0.g, .int .i64 p0.b, .slice p0.A p0.n p0.n, .int .i64 p1.g, .int .i64 p1.b, .slice p1.A p1.n p1.n, .int .i64 p2.g, .int .i64 p2.b, .slice p2.A p2.n p2.n, .int .i64 p3.g, .int .i64 p3.b, .slice p3.A p3.n p3.n] 53) := ⟨_, rfl⟩
      rw [← hw4] at b4 hb34 ab XB4 RB4
      rw [← hw4]
      have CF : Hid (∀ w', Below w4.heap.size w4 w' → Calls Try.prog (fnK x.kind) #[.pointer (some ⟨w3.heap.size, x.part.toNat * 3, none⟩), .agg #[.int .i64 x.kind, .int .i64 x.part, .int .i64 x.id, .int .i64 x.st, .int .i64 x.en, .int .i64 x.size, .int .i64 x.sum]] w' fun e w'' => e = .returned (.int .i64 0) ∧ Wd.Mv (fun g => g = w3.heap.size) w' w'' ∧ ∃ r0 r1 r2 r3, Pm w'' w.heap.size w3.heap.size r0 r1 r2 r3 (j.set x.part.toNat r)) := Lib.hid fun w' h => step_call HJ.out HL.out b4 ab b3.size hk Hm.out Hr.out h
      have B4 := Lib.hid b4
      have hgo := goes_fn x.kind
      have hne : ¬ w.heap.size + 1 = w3.heap.size := by have := (RB2.out.below RB2.out.lt hB3).lt; omega
      have hne2 : ¬ w.heap.size + 1 + 1 = w3.heap.size := by have := (RB2.out.below RB2.out.lt hB3).lt; omega
      have hle3 : w.heap.size ≤ w3.heap.size := b3.size
      unfold Goes at hgo
      have z0 := seven (Wd.Bx.drew XB4.out)
      have hw34 : w3.heap.size < w4.heap.size := ab.lt
      clear hb34 hw4 ab b3 b4 d0 d1 d2 d3 d4 d5 d6 d7 d8 d9 d10 d11 hB3
      go_region_held3 (fun w' => w'.cell? ⟨w.heap.size + 1, 0, none⟩ = some (.int .i64 x.kind) ∧ w'.cell? ⟨w.heap.size + 1, 1, none⟩ = some (.int .i64 x.part) ∧ w'.cell? ⟨w.heap.size + 1, 2, none⟩ = some (.int .i64 x.id) ∧ w'.cell? ⟨w.heap.size + 1, 3, none⟩ = some (.int .i64 x.st) ∧ w'.cell? ⟨w.heap.size + 1, 4, none⟩ = some (.int .i64 x.en) ∧ w'.cell? ⟨w.heap.size + 1, 5, none⟩ = some (.int .i64 x.size) ∧ w'.cell? ⟨w.heap.size + 1, 6, none⟩ = some (.int .i64 x.sum)) (with_reducible first | exact z10 | exact z0) (first
        | (go_at_call 19; (with_reducible refine (effects_any _).mono ?_); rintro e w5 ⟨rfl, hM5, hB5⟩; have hb5 : Below w4.heap.size w4 w5 := Wd.of_drew hB5; have hM5 : Mp w5 w4.heap.size := hM5; have z10 := seven (XB4.out.below XB4.out.lt hb5); have hlk := look_fn Hm.out hM5)
        | ((with_reducible refine (CF.out _ hb5).mono ?_); rintro e w6 ⟨rfl, hM6, r0, r1, r2, r3, hP6⟩; have XB6 := Lib.hid ((XB4.out.below XB4.out.lt hb5).at_ (hM6.keep _ (XB4.out.below XB4.out.lt hb5).lt hne)); have z10 := seven XB6.out))
      have RB6 := Lib.hid ((RB4.out.below RB4.out.lt hb5).at_ (hM6.keep _ (RB4.out.below RB4.out.lt hb5).lt hne2))
      have B6 := Lib.hid ((B4.out.trans (hb5.mono B4.out.size)).trans (hM6.below (B := w.heap.size) (fun g z => by omega) (Nat.le_trans B4.out.size hb5.size)))
      have L6 := len_step HJ.out HL.out Hr.out hP6
      have C7 := Lib.hid (journal_any w3.heap.size r0 r1 r2 r3 w6 hP6.box (by rw [← hP6.e]; exact hP6.jv) L6.1 L6.2.1 L6.2.2.1 L6.2.2.2)
      have P6 := Lib.hid hP6
      clear hP6 hM6 hb5 z0 z10 hlk hM5 hgo CF L6 hB5
      go_wp2_with fail
      refine C7.out.mono ?_
      rintro e w7 ⟨q0, q1, q2, q3, rfl, ⟨hJ7, hN7⟩, hB7⟩
      rw [← P6.out.e] at hJ7
      have RB7 := Lib.hid (RB6.out.below RB6.out.lt hB7)
      have B7 := Lib.hid (B6.out.trans (hB7.mono B6.out.size))
      have J7 := Lib.hid hJ7
      have N7 := Lib.hid (hN7.mono B6.out.size)
      clear hJ7 hN7 hB7
      obtain ⟨⟨d0, d1, d2, d3, d4, d5, d6, d7, d8, d9, d10, d11⟩, ⟨f0, f1, f2, f3, f4, f5, f6, f7, f8, f9, f10, f11⟩⟩ := twelve RB7.out
      go_wp2_with fail
      refine bodyPost_ret (v := .tuple #[.agg #[.int .i64 q0.g, .int .i64 q0.b, .slice q0.A q0.n q0.c, .int .i64 q1.g, .int .i64 q1.b, .slice q1.A q1.n q1.c, .int .i64 q2.g, .int .i64 q2.b, .slice q2.A q2.n q2.c, .int .i64 q3.g, .int .i64 q3.b, .slice q3.A q3.n q3.c], .int .i64 0]) ?_ rfl (outA_yes Hm.out HJ.out.e hk Hr.out (jv_set12 J7.out RB7.out) N7.out ?_)
      · rw [res_cell2 rfl]; go_simp
      · exact below12 B7.out (by omega) _ _ _ _ _ _ _ _ _ _ _ _
  · rw [tr_no hm] at Cm
    have r1 := Lib.hid (show Jo.app j x = none from if_neg hm)
    have r2 := Lib.hid (show Jo.appE j x = 1 from if_neg hm)
    have Cm := Lib.hid Cm
    clear hm
    obtain ⟨x0, x1, x2, x3, x4, x5, x6⟩ := seven XB.out
    go_enter Try.func7, Try.ntmps7
    go_upto_region 1 with fail
    rw [← Hw1.out]
    go_wp2_with fail
    refine Cm.out.mono ?_
    rintro e w2 ⟨rfl, hB2⟩
    have b2 := B1.out.trans (hB2.mono B1.out.size)
    have rb2 := RB.out.below RB.out.lt hB2
    obtain ⟨⟨d0, d1, d2, d3, d4, d5, d6, d7, d8, d9, d10, d11⟩, ⟨f0, f1, f2, f3, f4, f5, f6, f7, f8, f9, f10, f11⟩⟩ := twelve rb2
    have B2 := Lib.hid b2
    clear b2 rb2 hB2
    go_wp2_with fail
    refine bodyPost_ret (v := .tuple #[.agg #[.int .i64 0, .int .i64 0, .slice none 0 0, .int .i64 0, .int .i64 0, .slice none 0 0, .int .i64 0, .int .i64 0, .slice none 0 0, .int .i64 0, .int .i64 0, .slice none 0 0], .int .i64 1]) ?_ rfl (outA_no r1.out r2.out ?_)
    · rw [res_cell2 rfl]; go_simp
    · exact below12 B2.out (by omega) _ _ _ _ _ _ _ _ _ _ _ _
theorem apply_any (p0 p1 p2 p3 : Pv) (j : Jo.Jn) (x : En) (w : World) (hj : Jv w p0 p1 p2 p3 j) (hl : Len p0 p1 p2 p3 400000) :
    Calls Try.prog 7 #[.agg #[.int .i64 p0.g, .int .i64 p0.b, .slice p0.A p0.n p0.c, .int .i64 p1.g, .int .i64 p1.b, .slice p1.A p1.n p1.c, .int .i64 p2.g, .int .i64 p2.b, .slice p2.A p2.n p2.c, .int .i64 p3.g, .int .i64 p3.b, .slice p3.A p3.n p3.c], .agg #[.int .i64 x.kind, .int .i64 x.part, .int .i64 x.id, .int .i64 x.st, .int .i64 x.en, .int .i64 x.size, .int .i64 x.sum]] w (OutA w j x) :=
  (apply_core p0 p1 p2 p3 j x w hj hl).mono fun _ _ ⟨q0, q1, q2, q3, a, b, c, _⟩ => ⟨q0, q1, q2, q3, a, b, c⟩
theorem apply_no (p0 p1 p2 p3 : Pv) (j : Jo.Jn) (x : En) (w : World) (hj : Jv w p0 p1 p2 p3 j) (hl : Len p0 p1 p2 p3 400000) (h : Jo.app j x = none) :
    Calls Try.prog 7 #[.agg #[.int .i64 p0.g, .int .i64 p0.b, .slice p0.A p0.n p0.c, .int .i64 p1.g, .int .i64 p1.b, .slice p1.A p1.n p1.c, .int .i64 p2.g, .int .i64 p2.b, .slice p2.A p2.n p2.c, .int .i64 p3.g, .int .i64 p3.b, .slice p3.A p3.n p3.c], .agg #[.int .i64 x.kind, .int .i64 x.part, .int .i64 x.id, .int .i64 x.st, .int .i64 x.en, .int .i64 x.size, .int .i64 x.sum]] w fun e w' => e = .returned (.tuple #[.agg #[.int .i64 0, .int .i64 0, .slice none 0 0, .int .i64 0, .int .i64 0, .slice none 0 0, .int .i64 0, .int .i64 0, .slice none 0 0, .int .i64 0, .int .i64 0, .slice none 0 0], .int .i64 (Jo.appE j x)]) ∧ Below w.heap.size w w' :=
  (apply_core p0 p1 p2 p3 j x w hj hl).mono fun _ _ ⟨q0, q1, q2, q3, a, _, c, d⟩ => by
    obtain ⟨rfl, rfl, rfl, rfl⟩ := d h
    exact ⟨a, c⟩
theorem apply_yes (p0 p1 p2 p3 : Pv) (j i : Jo.Jn) (x : En) (w : World) (hj : Jv w p0 p1 p2 p3 j) (hl : Len p0 p1 p2 p3 400000) (h : Jo.app j x = some i) (h0 : Jo.appE j x = 0) :
    Calls Try.prog 7 #[.agg #[.int .i64 p0.g, .int .i64 p0.b, .slice p0.A p0.n p0.c, .int .i64 p1.g, .int .i64 p1.b, .slice p1.A p1.n p1.c, .int .i64 p2.g, .int .i64 p2.b, .slice p2.A p2.n p2.c, .int .i64 p3.g, .int .i64 p3.b, .slice p3.A p3.n p3.c], .agg #[.int .i64 x.kind, .int .i64 x.part, .int .i64 x.id, .int .i64 x.st, .int .i64 x.en, .int .i64 x.size, .int .i64 x.sum]] w fun e w' => ∃ q0 q1 q2 q3, e = .returned (.tuple #[.agg #[.int .i64 q0.g, .int .i64 q0.b, .slice q0.A q0.n q0.c, .int .i64 q1.g, .int .i64 q1.b, .slice q1.A q1.n q1.c, .int .i64 q2.g, .int .i64 q2.b, .slice q2.A q2.n q2.c, .int .i64 q3.g, .int .i64 q3.b, .slice q3.A q3.n q3.c], .int .i64 0]) ∧ Jv w' q0 q1 q2 q3 i ∧ Below w.heap.size w w' :=
  (apply_core p0 p1 p2 p3 j x w hj hl).mono fun _ _ ⟨q0, q1, q2, q3, a, b, c, _⟩ => ⟨q0, q1, q2, q3, by rw [a, h0], by rw [h] at b; exact b.1, c⟩
end Jr
end Go.Proofs.Ytljgalleiemaaaa
