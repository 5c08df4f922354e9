/- Package journal: the newest segment of a partition; what entries of each kind do to their partition. -/
import Derived.Deep.RegionLaw
import Derived.Deep.RegionHeld3
import Derived.BigRegion
import Derived.Test.YtljgalleiemaaaaPk01
import Derived.Test.YtljgalleiemaaaaPk05
namespace Go.Proofs.Ytljgalleiemaaaa
set_option maxRecDepth 20000
open Go.RowKit
namespace Wd
open Jo (En Pt Rg)
/-- What is told of a partition, in memory: two numbers and a slice of entries. -/
structure Pv where
  g : Int
  b : Int
  A : Option Addr
  n : Nat
  c : Nat
  l : List En
instance : Inhabited Pv := ⟨⟨0, 0, none, 0, 0, []⟩⟩
def Pv.pt (q : Pv) : Pt := ⟨q.g, q.b, q.l⟩
/-- From cell o on of the block stands the partition q. -/
structure Pc (w : World) (b o : Nat) (t : TypeId) (cs : Array Value) (q : Pv) : Prop where
  box : Bx w b t cs
  c0 : cs[o]? = some (.int .i64 q.g)
  c1 : cs[o + 1]? = some (.int .i64 q.b)
  c2 : cs[o + 2]? = some (.slice q.A q.n q.c)
  gr : Rg q.g
  br : Rg q.b
theorem Pc.cells {w : World} {b o : Nat} {t : TypeId} {cs : Array Value} {q : Pv} (h : Pc w b o t cs q) : w.cell? ⟨b, o, none⟩ = some (.int .i64 q.g) ∧ w.cell? ⟨b, o + 1, none⟩ = some (.int .i64 q.b) ∧ w.cell? ⟨b, o + 2, none⟩ = some (.slice q.A q.n q.c) ∧ w.frozen? ⟨b, o, none⟩ = false ∧ w.frozen? ⟨b, o + 1, none⟩ = false ∧ w.frozen? ⟨b, o + 2, none⟩ = false :=
  ⟨(h.box.cell _).trans h.c0, (h.box.cell _).trans h.c1, (h.box.cell _).trans h.c2, h.box.free _, h.box.free _, h.box.free _⟩
theorem Pc.below {w w' : World} {b o : Nat} {t : TypeId} {cs : Array Value} {q : Pv} (h : Pc w b o t cs q) (hb : Below w.heap.size w w') : Pc w' b o t cs q := ⟨h.box.below h.box.lt hb, h.c0, h.c1, h.c2, h.gr, h.br⟩
theorem Pc.keep {w w' : World} {b o : Nat} {t : TypeId} {cs : Array Value} {q : Pv} {G : Nat → Prop} (h : Pc w b o t cs q) (mv : Mv G w w') (hb : ¬ G b) : Pc w' b o t cs q := ⟨h.box.at_ (mv.keep b h.box.lt hb), h.c0, h.c1, h.c2, h.gr, h.br⟩
end Wd
namespace Jr
open Jo (En May Wf Rg Pt endOf last app1)
open Wd (Pv Pc Es Lv)
/-- The newest segment. -/
def nw (q : Pv) : En := match q.l.getLast? with | some x => x | none => ⟨0, 0, q.g, 0, q.b, 0, 0⟩
theorem nw_nil {q : Pv} (h : q.l = []) : nw q = ⟨0, 0, q.g, 0, q.b, 0, 0⟩ := by simp [nw, h]
theorem nw_at {q : Pv} (h : 0 < q.l.length) : nw q = q.l.getD (q.l.length - 1) default := by
  unfold nw
  rw [List.getLast?_eq_getElem?, List.getD_eq_getElem?_getD, List.getElem?_eq_getElem (by omega)]
  rfl
theorem nw_end (q : Pv) : (nw q).en = endOf q.pt := by
  unfold nw endOf Pv.pt
  cases q.l.getLast? <;> rfl
theorem nw_last (q : Pv) : (nw q).id = last q.pt := by
  unfold nw last Pv.pt
  cases q.l.getLast? <;> rfl
theorem res_cell1 {fn : Func} {p : Tmp} {ty : TypeId} (h : fn.results = #[.cell p ty]) (tmps : Array Value) (P : Program) (w : World) :
    (results fn tmps).run P w = ((asAddr (tmps.getD p undef)).run P w).andThen fun a w₁ => (loadVar ty a).run P w₁ := by
  simp only [results, h]
  simp [Sem.run_bind, Result.andThen]
theorem res_cell2 {fn : Func} {p u : Tmp} {ty : TypeId} (h : fn.results = #[.cell p ty, .tmp u]) (tmps : Array Value) (P : Program) (w : World) :
    (results fn tmps).run P w = ((asAddr (tmps.getD p undef)).run P w).andThen fun a w₁ => ((loadVar ty a).run P w₁).andThen fun x w₂ => .ok (.tuple #[x, tmps.getD u undef]) w₂ := by
  simp only [results, h]
  simp [Sem.run_bind, Result.andThen]
set_option maxHeartbeats 2000000 in
theorem newest_any (b o : Nat) (t : TypeId) (cs : Array Value) (q : Pv) (w : World) (hP : Pc w b o t cs q) (hE : Es w q.A q.n q.c q.l) (x : En) (hx : x = nw q) :
    Calls Try.prog 35 #[.pointer (some ⟨b, o, none⟩)] w fun e w' => e = .returned (.agg #[.int .i64 x.kind, .int .i64 x.part, .int .i64 x.id, .int .i64 x.st, .int .i64 x.en, .int .i64 x.size, .int .i64 x.sum]) ∧ Below w.heap.size w w' := by
  have al := (Below.refl w.heap.size w).alloc (Nat.le_refl _) (.cells #[.int .i64 0, .int .i64 0, .int .i64 0, .int .i64 0, .int .i64 0, .int .i64 0, .int .i64 0] 32)
  have AL := Lib.hid al
  have hlt := hP.box.lt
  obtain ⟨p0, p1, p2, -, -, -⟩ := (hP.below al).cells
  have hn := hE.len
  have hm := hE.max
  unfold maxLen at hm
  have hc := hE.cap
  have HE := Lib.hid hE
  clear hP al hE
  by_cases h0 : 0 < q.l.length
  · rw [nw_at h0] at hx
    obtain ⟨b2, f2, hA, hl2, e0, e1, e2, e3, e4, e5, e6, hw⟩ := HE.out.cells (j := q.l.length - 1) (by omega) hx
    rw [← hn] at e0 e1 e2 e3 e4 e5 e6 h0
    rw [hA] at p2
    have k1 : ((q.n : Int) == 0) = false := by simp; omega
    have k2 : IntKind.i64.wrap ((q.n : Int) - 1) = (q.n : Int) - 1 := IntWalk.i64_in _ (by omega)
    have k3 : ((q.n : Int) - 1).toNat = q.n - 1 := by omega
    have k4 : (0 : Int) ≤ (q.n : Int) - 1 := by omega
    have k5 : (q.n : Int) - 1 < (q.n : Int) := by omega
    have k6 : (1 : Int) ≤ (q.n : Int) := by omega
    clear hx hn hA
    go_enter Try.func35, Try.ntmps35
    go_wp2_with fail
    go_region
    go_wp2_with fail
    refine bodyPost_ret (v := .agg #[.int .i64 x.kind, .int .i64 x.part, .int .i64 x.id, .int .i64 x.st, .int .i64 x.en, .int .i64 x.size, .int .i64 x.sum]) ?_ rfl ⟨rfl, ?_⟩
    · rw [res_cell1 rfl]; go_simp
    · exact ((Below.refl _ _).alloc (Nat.le_refl _) _).drew
  · have hl0 : q.l = [] := List.eq_nil_of_length_eq_zero (by omega)
    rw [nw_nil hl0] at hx
    subst hx
    have k1 : ((q.n : Int) == 0) = true := by simp; omega
    clear hn hm hc hl0 h0
    go_enter Try.func35, Try.ntmps35
    go_wp2_with fail
    go_region
    go_wp2_with fail
    refine bodyPost_ret (v := .agg #[.int .i64 0, .int .i64 0, .int .i64 q.g, .int .i64 0, .int .i64 q.b, .int .i64 0, .int .i64 0]) ?_ rfl ⟨rfl, ?_⟩
    · rw [res_cell1 rfl]; go_simp
    · exact ((Below.refl _ _).alloc (Nat.le_refl _) _).drew
/-- The block with the partition turned. -/
def put3 (cs : Array Value) (o : Nat) (q : Pv) : Array Value := ((cs.setIfInBounds o (.int .i64 q.g)).setIfInBounds (o + 1) (.int .i64 q.b)).setIfInBounds (o + 2) (.slice q.A q.n q.c)
theorem set_same {cs : Array Value} {o : Nat} {v : Value} (h : cs[o]? = some v) : cs.setIfInBounds o v = cs := by
  refine Array.ext_getElem? fun j => ?_
  rw [Array.getElem?_setIfInBounds]
  split
  · rename_i e
    subst e
    rw [h, if_pos (Array.getElem?_eq_some_iff.1 h).1]
  · rfl
/-- What an entry did to its partition. -/
def Eff (w : World) (B b o : Nat) (t : TypeId) (cs : Array Value) (q : Pv) (r : Option Pt) (e : Ending) (w' : World) : Prop :=
  (r = none → e = .returned (.int .i64 5) ∧ Below w.heap.size w w') ∧ ∀ p, r = some p → e = .returned (.int .i64 0) ∧ ∃ q', q'.pt = p ∧ Pc w' b o t (put3 cs o q') q' ∧ Lv w' B q'.A q'.n q'.c q'.l ∧ Wd.Mv (fun g => g = b ∨ (q.n < q.c ∧ B ≤ g ∧ (Value.slice q.A q.n q.c).ownBlock = some g)) w w' ∧
    ∀ g, 0 < q'.c → (Value.slice q'.A q'.n q'.c).ownBlock = some g → (0 < q.c ∧ (Value.slice q.A q.n q.c).ownBlock = some g) ∨ w.heap.size ≤ g
theorem eff_no {w w' : World} {B b o : Nat} {t : TypeId} {cs : Array Value} {q : Pv} {r : Option Pt} (hr : r = none) (h : Below w.heap.size w w') : Eff w B b o t cs q r (.returned (.int .i64 5)) w' :=
  ⟨fun _ => ⟨rfl, h⟩, fun p e => by rw [hr] at e; cases e⟩
theorem app1_commit {q : Pv} {x : En} (hk : x.kind = 1) : app1 q.pt x = if x.id = (nw q).id + 1 ∧ x.st = (nw q).en then some ⟨q.g, q.b, q.l ++ [x]⟩ else none := by
  unfold app1
  rw [if_pos hk, nw_end, nw_last]
  rfl
theorem nw_wf {q : Pv} (hg : Rg q.g) (hb : Rg q.b) (hl : ∀ x ∈ q.l, Wf x) : Wf (nw q) := by
  by_cases h : 0 < q.l.length
  · rw [nw_at h]
    exact hl _ (Wd.getD_mem (by omega))
  · rw [nw_nil (List.eq_nil_of_length_eq_zero (by omega))]
    refine ⟨?_, ?_, hg, ?_, hb, ?_, ?_⟩ <;> simp [Rg]
theorem eff_commit {w w5 w6 : World} {B b o : Nat} {t : TypeId} {cs : Array Value} {q : Pv} {x : En} {r : Option Pt} {A : Option Addr} {c : Nat} (hr : r = some ⟨q.g, q.b, q.l ++ [x]⟩) (h5 : Below w.heap.size w w5) (hP : Pc w6 b o t cs q) (hV : Lv w6 B A (q.n + 1) c (q.l ++ [x]))
    (hM : Wd.Mv (fun g => q.n < q.c ∧ B ≤ g ∧ (Value.slice q.A q.n q.c).ownBlock = some g) w5 w6) (hN : ∀ g, (Value.slice A (q.n + 1) c).ownBlock = some g → (q.n < q.c ∧ B ≤ g ∧ (Value.slice q.A q.n q.c).ownBlock = some g) ∨ w5.heap.size ≤ g) {n5 : Nat} (hb : b < n5) (hn5 : n5 ≤ w5.heap.size) (hnb : 0 < q.c → (Value.slice q.A q.n q.c).ownBlock ≠ some b) :
    Eff w B b o t cs q r (.returned (.int .i64 0)) (w6.setCell ⟨b, o + 2, none⟩ (.slice A (q.n + 1) c)) := by
  refine ⟨(fun e => by rw [hr] at e; cases e), fun p e => ⟨rfl, ?_⟩⟩
  rw [hr] at e
  cases e
  have hne : ∀ g, (Value.slice A (q.n + 1) c).ownBlock = some g → g ≠ b := fun g hg e => by
    rcases hN g hg with z | z
    · exact hnb (by omega) (e ▸ z.2.2)
    · omega
  refine ⟨⟨q.g, q.b, A, q.n + 1, c, q.l ++ [x]⟩, rfl, ⟨?_, ?_, ?_, ?_, hP.gr, hP.br⟩, ?_, ?_, fun g hc hg => ?_⟩
  · have := hP.box.set (o + 2) (.slice A (q.n + 1) c)
    unfold put3
    rw [set_same hP.c0, set_same hP.c1]
    exact this
  all_goals try (unfold put3; rw [set_same hP.c0, set_same hP.c1])
  · rw [Array.getElem?_setIfInBounds_ne (by omega)]
    exact hP.c0
  · rw [Array.getElem?_setIfInBounds_ne (by omega)]
    exact hP.c1
  · rw [Array.getElem?_setIfInBounds, if_pos rfl, if_pos (Array.getElem?_eq_some_iff.1 hP.c2).1]
  · exact hV.keep ((Wd.Mv.refl (fun g => g = b) w6).set (a := ⟨b, o + 2, none⟩) rfl _) fun _ g hg => hne g hg
  · exact ((Wd.Mv.of_below h5).then (hM.mono fun g h => .inr h)).set (a := ⟨b, o + 2, none⟩) (.inl rfl) _
  · rcases hN g hg with z | z
    · exact .inl ⟨by omega, z.2.2⟩
    · have := h5.size
      exact .inr (by omega)
set_option maxHeartbeats 4000000 in
theorem commit_any (B b o : Nat) (t : TypeId) (cs : Array Value) (q : Pv) (x : En) (w : World) (hP : Pc w b o t cs q) (hV : Lv w B q.A q.n q.c q.l) (hL : q.l.length ≤ 1000000) (hB : B ≤ w.heap.size) (hnb : 0 < q.c → (Value.slice q.A q.n q.c).ownBlock ≠ some b) (hx : May x) (hk : x.kind = 1) :
    Calls Try.prog 32 #[.pointer (some ⟨b, o, none⟩), .agg #[.int .i64 x.kind, .int .i64 x.part, .int .i64 x.id, .int .i64 x.st, .int .i64 x.en, .int .i64 x.size, .int .i64 x.sum]] w (Eff w B b o t cs q (app1 q.pt x)) := by
  obtain ⟨y, hy⟩ : ∃ y, y = nw q := ⟨_, rfl⟩
  have hyw : Wf y := hy ▸ nw_wf hP.gr hP.br hV.es.wf
  have al := (Below.refl w.heap.size w).alloc (Nat.le_refl _) (.cells #[.int .i64 x.kind, .int .i64 x.part, .int .i64 x.id, .int .i64 x.st, .int .i64 x.en, .int .i64 x.size, .int .i64 x.sum] 32)
  have bx := Wd.Bx.new w 32 #[.int .i64 x.kind, .int .i64 x.part, .int .i64 x.id, .int .i64 x.st, .int .i64 x.en, .int .i64 x.size, .int .i64 x.sum]
  obtain ⟨w1, hw1⟩ : ∃ w1, w1 = w.alloc (.cells #[.int .i64 x.kind, .int .i64 x.part, .int .i64 x.id, .int .i64 x.st, .int .i64 x.en, .int .i64 x.size, .int .i64 x.sum] 32) := ⟨_, rfl⟩
  rw [← hw1] at al bx
  have C := Lib.hid (newest_any b o t cs q w1 (hP.below al) (hV.es.below al) y hy)
  have HP := Lib.hid hP
  have HV := Lib.hid hV
  have AL := Lib.hid al
  have BX := Lib.hid bx
  have Hw1 := Lib.hid hw1
  have hid : 1 ≤ x.id ∧ x.id ≤ 1073741824 := ⟨hx.1.2.2.1, hx.1.2.2.2⟩
  have hA := app1_commit (q := q) hk
  rw [← hy] at hA
  have HA := Lib.hid hA
  have HL := Lib.hid hL
  have HB := Lib.hid hB
  have Hwf := Lib.hid hx.wf
  obtain ⟨-, -, yi, -, ye, -, -⟩ := hyw
  unfold Rg at yi ye
  clear hP hV al bx hw1 hy hx hA hk hL hB
  by_cases h1 : x.id = y.id + 1
  · have k1 : (x.id == y.id + 1) = true := by simpa using h1
    have k1' : (x.id != y.id + 1) = false := by simpa using h1
    have yb : y.id ≤ 1073741823 := by omega
    by_cases h2 : x.st = y.en
    · have k2 : (x.st == y.en) = true := by simpa using h2
      have k2' : (x.st != y.en) = false := by simpa using h2
      have r1 := Lib.hid (HA.out.trans (if_pos ⟨h1, h2⟩))
      clear h1 h2
      go_enter Try.func32, Try.ntmps32
      go_upto_region 1 with fail
      rw [← Hw1.out]
      go_wp2_with fail
      refine C.out.mono ?_
      rintro e w2 ⟨rfl, hB2⟩
      have hB3 := AL.out.trans (hB2.mono AL.out.size)
      have HB2 := Lib.hid hB3
      obtain ⟨c2, c3⟩ := And.intro ((BX.out.below BX.out.lt hB2).cell 2) ((BX.out.below BX.out.lt hB2).cell 3)
      have hz := (BX.out.below BX.out.lt hB2).lt
      have BX2 := Lib.hid (BX.out.below BX.out.lt hB2)
      clear hB2 hB3
      go_upto_region 4 with fail
      clear c2 c3
      have al3 := (Below.refl w2.heap.size w2).alloc (Nat.le_refl _) (.cells #[.int .i64 y.kind, .int .i64 y.part, .int .i64 y.id, .int .i64 y.st, .int .i64 y.en, .int .i64 y.size, .int .i64 y.sum] 32)
      have B3 := Lib.hid (HB2.out.trans (al3.mono HB2.out.size))
      obtain ⟨c0, c1, c2, c3, c4, c5, c6⟩ := And.intro ((BX2.out.below BX2.out.lt al3).cell 0) (And.intro ((BX2.out.below BX2.out.lt al3).cell 1) (And.intro ((BX2.out.below BX2.out.lt al3).cell 2) (And.intro ((BX2.out.below BX2.out.lt al3).cell 3) (And.intro ((BX2.out.below BX2.out.lt al3).cell 4) (And.intro ((BX2.out.below BX2.out.lt al3).cell 5) ((BX2.out.below BX2.out.lt al3).cell 6))))))
      obtain ⟨w3, hw3⟩ : ∃ w3, w3 = w2.alloc (.cells #[.int .i64 y.kind, .int .i64 y.part, .int .i64 y.id, .int .i64 y.st, .int .i64 y.en, .int .i64 y.size, .int .i64 y.sum] 32) := ⟨_, rfl⟩
      rw [← hw3] at c0 c1 c2 c3 c4 c5 c6 B3
      rw [← hw3]
      obtain ⟨d0, d1, d2, f0, f1, f2⟩ := (HP.out.below B3.out).cells
      clear al3 hw3
      have A5 : Below w.heap.size w (w3.drew.alloc (.cells #[.int .i64 x.kind, .int .i64 x.part, .int .i64 x.id, .int .i64 x.st, .int .i64 x.en, .int .i64 x.size, .int .i64 x.sum] 32)) := B3.out.drew.alloc B3.out.size _
      have L5 := HV.out.below A5
      have hcv := Wd.ev_new w3.drew x _ rfl
      have hl := HL.out
      have hb5 : B ≤ (w3.drew.alloc (.cells #[.int .i64 x.kind, .int .i64 x.part, .int .i64 x.id, .int .i64 x.st, .int .i64 x.en, .int .i64 x.size, .int .i64 x.sum] 32)).heap.size := Nat.le_trans HB.out A5.size
      have hbl := (HP.out.below B3.out).box.lt
      have P5 := Lib.hid (HP.out.below A5)
      have A5 := Lib.hid A5
      have Hnb := Lib.hid hnb
      clear hnb
      go_region_law (refine Wd.step_appE _ rfl (.tmp 26) (.tmp 28) rfl B q.A q.n q.c q.l rfl L5 _ x rfl Hwf.out hcv hl hb5 ?_; intro A6 c6 w6 hV6 hM6 hN6; have P6 := Lib.hid (P5.out.keep hM6 fun z => Hnb.out (by omega) z.2.2); obtain ⟨-, -, d2, -, -, f2⟩ := P6.out.cells)
      all_goals (
        go_wp2_with fail
        go_ret
        exact eff_commit r1.out A5.out P6.out hV6 hM6 hN6 hbl (by simp) Hnb.out)
    · have k2 : (x.st == y.en) = false := by simpa using h2
      have k2' : (x.st != y.en) = true := by simpa using h2
      have r0 := Lib.hid (HA.out.trans (if_neg fun z => h2 z.2))
      clear h1 h2
      go_enter Try.func32, Try.ntmps32
      go_upto_region 1 with fail
      rw [← Hw1.out]
      go_wp2_with fail
      refine C.out.mono ?_
      rintro e w2 ⟨rfl, hB2⟩
      have hB3 := AL.out.trans (hB2.mono AL.out.size)
      obtain ⟨c2, c3⟩ := And.intro ((BX.out.below BX.out.lt hB2).cell 2) ((BX.out.below BX.out.lt hB2).cell 3)
      have hz := (BX.out.below BX.out.lt hB2).lt
      go_wp2_with fail
      go_ret
      exact eff_no r0.out (hB3.alloc hB3.size _)
  · have r0 := Lib.hid (HA.out.trans (if_neg fun z => h1 z.1))
    by_cases hy2 : y.id ≤ 9223372036854775806
    · have k1 : (x.id == y.id + 1) = false := by simpa using h1
      have k1' : (x.id != y.id + 1) = true := by simpa using h1
      clear h1
      go_enter Try.func32, Try.ntmps32
      go_upto_region 1 with fail
      rw [← Hw1.out]
      go_wp2_with fail
      refine C.out.mono ?_
      rintro e w2 ⟨rfl, hB2⟩
      have hB3 := AL.out.trans (hB2.mono AL.out.size)
      obtain ⟨c2, c3⟩ := And.intro ((BX.out.below BX.out.lt hB2).cell 2) ((BX.out.below BX.out.lt hB2).cell 3)
      have hz := (BX.out.below BX.out.lt hB2).lt
      go_wp2_with fail
      go_ret
      exact eff_no r0.out (hB3.alloc hB3.size _)
    · have e0 : y.id = 9223372036854775807 := by omega
      have ew : wrap64 9223372036854775808 = -9223372036854775808 := by simp [wrap64]
      have k1 : (x.id == wrap64 9223372036854775808) = false := by rw [ew]; simp; omega
      have k1' : (x.id != wrap64 9223372036854775808) = true := by rw [ew]; simp; omega
      clear ew
      clear h1 hy2
      rw [e0] at C
      clear e0
      go_enter Try.func32, Try.ntmps32
      go_upto_region 1 with fail
      rw [← Hw1.out]
      go_wp2_with fail
      refine C.out.mono ?_
      rintro e w2 ⟨rfl, hB2⟩
      have hB3 := AL.out.trans (hB2.mono AL.out.size)
      obtain ⟨c2, c3⟩ := And.intro ((BX.out.below BX.out.lt hB2).cell 2) ((BX.out.below BX.out.lt hB2).cell 3)
      have hz := (BX.out.below BX.out.lt hB2).lt
      go_wp2_with fail
      go_ret
      exact eff_no r0.out (hB3.alloc hB3.size _)
theorem app1_drop {q : Pv} {x : En} (hk : x.kind = 2) : app1 q.pt x = match q.l with | [] => none | y :: l => if y.id = x.id then some ⟨x.id, y.en, l⟩ else none := by
  unfold app1
  rw [if_neg (by omega), if_pos hk]
  rfl
theorem pc_set {w : World} {b o : Nat} {t : TypeId} {cs : Array Value} {q : Pv} (h : Pc w b o t cs q) (q' : Pv) (hg : Rg q'.g) (hb : Rg q'.b) : Pc (((w.setCell ⟨b, o, none⟩ (.int .i64 q'.g)).setCell ⟨b, o + 1, none⟩ (.int .i64 q'.b)).setCell ⟨b, o + 2, none⟩ (.slice q'.A q'.n q'.c)) b o t (put3 cs o q') q' := by
  have h2 := (Array.getElem?_eq_some_iff.1 h.c2).1
  refine ⟨((h.box.set o _).set (o + 1) _).set (o + 2) _, ?_, ?_, ?_, hg, hb⟩ <;> unfold put3
  · rw [Array.getElem?_setIfInBounds_ne (by omega), Array.getElem?_setIfInBounds_ne (by omega), Array.getElem?_setIfInBounds, if_pos rfl, if_pos (by omega)]
  · rw [Array.getElem?_setIfInBounds_ne (by omega), Array.getElem?_setIfInBounds, if_pos rfl, if_pos (by simp; omega)]
  · rw [Array.getElem?_setIfInBounds, if_pos rfl, if_pos (by simp; omega)]
theorem eff_set {w w5 : World} {B b o : Nat} {t : TypeId} {cs : Array Value} {q : Pv} {r : Option Pt} (q' : Pv) (hr : r = some q'.pt) (h5 : Below w.heap.size w w5) (hP : Pc w5 b o t cs q) (hV : Lv w5 B q'.A q'.n q'.c q'.l) (hN : ∀ g, (Value.slice q'.A q'.n q'.c).ownBlock = some g → (Value.slice q.A q.n q.c).ownBlock = some g) (hcc : q'.c ≤ q.c) (hnb : 0 < q.c → (Value.slice q.A q.n q.c).ownBlock ≠ some b) (hg : Rg q'.g) (hb : Rg q'.b) :
    Eff w B b o t cs q r (.returned (.int .i64 0)) (((w5.setCell ⟨b, o, none⟩ (.int .i64 q'.g)).setCell ⟨b, o + 1, none⟩ (.int .i64 q'.b)).setCell ⟨b, o + 2, none⟩ (.slice q'.A q'.n q'.c)) := by
  refine ⟨(fun e => by rw [hr] at e; cases e), fun p e => ⟨rfl, ?_⟩⟩
  rw [hr] at e
  cases e
  have mv : Wd.Mv (fun g => g = b) w5 (((w5.setCell ⟨b, o, none⟩ (.int .i64 q'.g)).setCell ⟨b, o + 1, none⟩ (.int .i64 q'.b)).setCell ⟨b, o + 2, none⟩ (.slice q'.A q'.n q'.c)) := (((Wd.Mv.refl (fun g => g = b) w5).set (a := ⟨b, o, none⟩) rfl _).set (a := ⟨b, o + 1, none⟩) rfl _).set (a := ⟨b, o + 2, none⟩) rfl _
  refine ⟨q', rfl, pc_set hP q' hg hb, hV.keep mv fun hc g hg e => hnb (by omega) ?_, (Wd.Mv.of_below h5).then (mv.mono fun g h => .inl h), fun g hc hg => .inl ⟨by omega, hN g hg⟩⟩
  rw [← e]
  exact hN g hg
set_option maxHeartbeats 4000000 in
theorem drop_any (B b o : Nat) (t : TypeId) (cs : Array Value) (q : Pv) (x : En) (w : World) (hP : Pc w b o t cs q) (hV : Lv w B q.A q.n q.c q.l) (hnb : 0 < q.c → (Value.slice q.A q.n q.c).ownBlock ≠ some b) (hx : May x) (hk : x.kind = 2) :
    Calls Try.prog 33 #[.pointer (some ⟨b, o, none⟩), .agg #[.int .i64 x.kind, .int .i64 x.part, .int .i64 x.id, .int .i64 x.st, .int .i64 x.en, .int .i64 x.size, .int .i64 x.sum]] w (Eff w B b o t cs q (app1 q.pt x)) := by
  have al := (Below.refl w.heap.size w).alloc (Nat.le_refl _) (.cells #[.int .i64 x.kind, .int .i64 x.part, .int .i64 x.id, .int .i64 x.st, .int .i64 x.en, .int .i64 x.size, .int .i64 x.sum] 32)
  have bx := Wd.Bx.new w 32 #[.int .i64 x.kind, .int .i64 x.part, .int .i64 x.id, .int .i64 x.st, .int .i64 x.en, .int .i64 x.size, .int .i64 x.sum]
  obtain ⟨w1, hw1⟩ : ∃ w1, w1 = w.alloc (.cells #[.int .i64 x.kind, .int .i64 x.part, .int .i64 x.id, .int .i64 x.st, .int .i64 x.en, .int .i64 x.size, .int .i64 x.sum] 32) := ⟨_, rfl⟩
  rw [← hw1] at al bx
  have HP := Lib.hid (hP.below al)
  have HV := Lib.hid (hV.below al)
  have AL := Lib.hid al
  have Hw1 := Lib.hid hw1
  have hid : 1 ≤ x.id ∧ x.id ≤ 1073741824 := ⟨hx.1.2.2.1, hx.1.2.2.2⟩
  have HA := Lib.hid (app1_drop (q := q) hk)
  have Hnb := Lib.hid hnb
  have c2 := bx.cell 2
  obtain ⟨d0, d1, d2, f0, f1, f2⟩ := HP.out.cells
  have hn := HV.out.es.len
  have hcap := HV.out.es.cap
  have hm := HV.out.es.max
  unfold maxLen at hm
  clear hP hV al bx hw1 hx hk hnb
  cases hl : q.l with
  | nil =>
    rw [hl] at hn
    have k1 : ((q.n : Int) == 0) = true := by simp; exact hn
    have r0 := Lib.hid (show app1 q.pt x = none by rw [HA.out, hl])
    clear hl hn hcap hm
    go_enter Try.func33, Try.ntmps33
    go_upto_region 1 with fail
    rw [← Hw1.out]
    go_quiet (fail)
    go_wp2_with fail
    go_ret
    exact eff_no r0.out (Wd.below_drewN AL.out _)
  | cons y l =>
    have HA : Hid (app1 q.pt x = if y.id = x.id then some ⟨x.id, y.en, l⟩ else none) := Lib.hid (by rw [HA.out, hl])
    have V := HV.out
    rw [hl] at V
    obtain ⟨b2, g2, hA, hl2, -, -, e2, -, e4, -, -, hw⟩ := V.es.cells (j := 0) (by simp) (x := y) rfl
    rw [Nat.zero_mul, Nat.add_zero] at e2 e4
    rw [hA] at d2
    have k1 : ((q.n : Int) == 0) = false := by simp; rw [hn, hl]; simp
    have k2 : (0 : Int) < (q.n : Int) := by rw [hn, hl]; simp
    have k3 : 0 < q.n := by omega
    have k4 : 1 ≤ q.c := by omega
    have hye := hw.2.2.2.2.1
    have HT := Lib.hid V.tail
    have HW := Lib.hid hl
    clear hl hn V
    by_cases h1 : y.id = x.id
    · have j1 : (x.id == x.id) = true := by simp
      have j2 : (x.id != x.id) = false := by simp
      rw [h1] at e2
      have r1 := Lib.hid (HA.out.trans (if_pos h1))
      clear h1
      have D := fun n => Wd.below_drewN (Below.refl w1.heap.size w1) n
      have DD := Lib.hid D
      clear D
      by_cases h2 : q.c = 1
      · rw [if_pos h2, hA, h2] at HT
        go_enter Try.func33, Try.ntmps33
        go_upto_region 1 with fail
        rw [← Hw1.out]
        go_quiet (fail)
        go_upto_region 3 with fail
        go_region
        go_wp2_with fail
        go_ret
        refine eff_set (w5 := _) ⟨x.id, y.en, some ⟨b2, g2, none⟩, q.n - 1, 0, l⟩ r1.out (Wd.below_drewN AL.out _) (HP.out.below (DD.out _)) (HT.out.below (DD.out _)) (fun g hg => by rw [hA]; exact hg) (by simp) Hnb.out ?_ hye
        show -9223372036854775808 ≤ x.id ∧ x.id ≤ 9223372036854775807
        omega
      · rw [if_neg h2, hA, Option.map_some, Addr.add_lit] at HT
        go_enter Try.func33, Try.ntmps33
        go_upto_region 1 with fail
        rw [← Hw1.out]
        go_quiet (fail)
        go_upto_region 3 with fail
        go_region
        go_wp2_with fail
        go_ret
        refine eff_set (w5 := _) ⟨x.id, y.en, some ⟨b2, g2 + 7, none⟩, q.n - 1, q.c - 1, l⟩ r1.out (Wd.below_drewN AL.out _) (HP.out.below (DD.out _)) (HT.out.below (DD.out _)) (fun g hg => by rw [hA]; exact hg) (by simp) Hnb.out ?_ hye
        show -9223372036854775808 ≤ x.id ∧ x.id ≤ 9223372036854775807
        omega
    · have j1 : (y.id == x.id) = false := by simpa using h1
      have j2 : (y.id != x.id) = true := by simpa using h1
      have r0 := Lib.hid (HA.out.trans (if_neg h1))
      clear h1
      go_enter Try.func33, Try.ntmps33
      go_upto_region 1 with fail
      rw [← Hw1.out]
      go_quiet (fail)
      go_wp2_with fail
      go_ret
      exact eff_no r0.out (Wd.below_drewN AL.out _)
theorem app1_base {q : Pv} {x : En} (hk : x.kind = 3) : app1 q.pt x = if q.l = [] ∧ q.g = 0 ∧ q.b = 0 then some ⟨x.id, x.en, []⟩ else none := by
  unfold app1
  rw [if_neg (by omega), if_neg (by omega)]
  rfl
theorem eff_two {w w5 : World} {B b o : Nat} {t : TypeId} {cs : Array Value} {q : Pv} {r : Option Pt} (g' b' : Int) (hr : r = some ⟨g', b', q.l⟩) (h5 : Below w.heap.size w w5) (hP : Pc w5 b o t cs q) (hV : Lv w5 B q.A q.n q.c q.l) (hnb : 0 < q.c → (Value.slice q.A q.n q.c).ownBlock ≠ some b) (hg : Rg g') (hb : Rg b') :
    Eff w B b o t cs q r (.returned (.int .i64 0)) ((w5.setCell ⟨b, o, none⟩ (.int .i64 g')).setCell ⟨b, o + 1, none⟩ (.int .i64 b')) := by
  refine ⟨(fun e => by rw [hr] at e; cases e), fun p e => ⟨rfl, ?_⟩⟩
  rw [hr] at e
  cases e
  have mv : Wd.Mv (fun g => g = b) w5 ((w5.setCell ⟨b, o, none⟩ (.int .i64 g')).setCell ⟨b, o + 1, none⟩ (.int .i64 b')) := ((Wd.Mv.refl (fun g => g = b) w5).set (a := ⟨b, o, none⟩) rfl _).set (a := ⟨b, o + 1, none⟩) rfl _
  have h2 := (Array.getElem?_eq_some_iff.1 hP.c2).1
  have e2 : ((cs.setIfInBounds o (.int .i64 g')).setIfInBounds (o + 1) (.int .i64 b'))[o + 2]? = some (.slice q.A q.n q.c) := by
    rw [Array.getElem?_setIfInBounds_ne (by omega), Array.getElem?_setIfInBounds_ne (by omega)]
    exact hP.c2
  have ep : put3 cs o ⟨g', b', q.A, q.n, q.c, q.l⟩ = (cs.setIfInBounds o (.int .i64 g')).setIfInBounds (o + 1) (.int .i64 b') := set_same e2
  refine ⟨⟨g', b', q.A, q.n, q.c, q.l⟩, rfl, ⟨?_, ?_, ?_, ?_, hg, hb⟩, hV.keep mv fun hc g hg e => hnb hc (by rw [← e]; exact hg), (Wd.Mv.of_below h5).then (mv.mono fun g h => .inl h), fun g hc hg => .inl ⟨hc, hg⟩⟩
  all_goals rw [ep]
  · exact (hP.box.set o _).set (o + 1) _
  · rw [Array.getElem?_setIfInBounds_ne (by omega), Array.getElem?_setIfInBounds, if_pos rfl, if_pos (by omega)]
  · rw [Array.getElem?_setIfInBounds, if_pos rfl, if_pos (by simp; omega)]
  · exact e2
set_option maxHeartbeats 4000000 in
theorem begin_any (B b o : Nat) (t : TypeId) (cs : Array Value) (q : Pv) (x : En) (w : World) (hP : Pc w b o t cs q) (hV : Lv w B q.A q.n q.c q.l) (hnb : 0 < q.c → (Value.slice q.A q.n q.c).ownBlock ≠ some b) (hx : May x) (hk : x.kind = 3) :
    Calls Try.prog 34 #[.pointer (some ⟨b, o, none⟩), .agg #[.int .i64 x.kind, .int .i64 x.part, .int .i64 x.id, .int .i64 x.st, .int .i64 x.en, .int .i64 x.size, .int .i64 x.sum]] w (Eff w B b o t cs q (app1 q.pt x)) := by
  have al := (Below.refl w.heap.size w).alloc (Nat.le_refl _) (.cells #[.int .i64 x.kind, .int .i64 x.part, .int .i64 x.id, .int .i64 x.st, .int .i64 x.en, .int .i64 x.size, .int .i64 x.sum] 32)
  have bx := Wd.Bx.new w 32 #[.int .i64 x.kind, .int .i64 x.part, .int .i64 x.id, .int .i64 x.st, .int .i64 x.en, .int .i64 x.size, .int .i64 x.sum]
  obtain ⟨w1, hw1⟩ : ∃ w1, w1 = w.alloc (.cells #[.int .i64 x.kind, .int .i64 x.part, .int .i64 x.id, .int .i64 x.st, .int .i64 x.en, .int .i64 x.size, .int .i64 x.sum] 32) := ⟨_, rfl⟩
  rw [← hw1] at al bx
  have hbl := hP.box.lt
  have hbn : b ≠ w.heap.size := by omega
  have HP := Lib.hid (hP.below al)
  have HV := Lib.hid (hV.below al)
  have AL := Lib.hid al
  have Hw1 := Lib.hid hw1
  have HA := Lib.hid (app1_base (q := q) hk)
  have Hnb := Lib.hid hnb
  have HX := Lib.hid hx.wf
  have c2 := bx.cell 2
  have c4 := bx.cell 4
  obtain ⟨d0, d1, d2, f0, f1, f2⟩ := HP.out.cells
  have hn := HV.out.es.len
  have hm := HV.out.es.max
  have hcap := HV.out.es.cap
  unfold maxLen at hm
  have D := fun n => Wd.below_drewN (Below.refl w1.heap.size w1) n
  have DD := Lib.hid D
  have g1 := hP.gr
  have g2 := hP.br
  unfold Rg at g1 g2
  clear hP hV al bx hw1 hx hk hnb D
  by_cases hl : q.l = []
  · have k0 : ((q.n : Int)) = 0 := by rw [hn, hl]; rfl
    have k1 : decide ((0 : Int) < (q.n : Int)) = false := by rw [k0]; rfl
    have k2 : decide (0 < q.n) = false := by simp; omega
    have hn0 : q.n = 0 := by omega
    by_cases h1 : q.g = 0
    · by_cases h2 : q.b = 0
      · have r1 := Lib.hid (HA.out.trans (if_pos ⟨hl, h1, h2⟩))
        have V2 : Hid (Lv w1 B q.A q.n q.c []) := Lib.hid (by have := HV.out; rw [hl] at this; exact this)
        have j1 : (q.g == 0) = true := by simpa using h1
        have j1' : (q.g != 0) = false := by simpa using h1
        have j2 : (q.b == 0) = true := by simpa using h2
        have j2' : (q.b != 0) = false := by simpa using h2
        have HH := Lib.hid (And.intro h1 (And.intro h2 (And.intro hn0 hl)))
        clear h1 h2 hl k0 hn hm hn0 hcap g1 g2
        go_enter Try.func34, Try.ntmps34
        go_upto_region 1 with fail
        rw [← Hw1.out]
        go_wp2_with fail
        go_region
        go_wp2_with fail
        go_ret
        refine eff_two (w5 := w1.drew) x.id x.en (r1.out.trans (by rw [HH.out.2.2.2])) ?_ ?_ ?_ Hnb.out HX.out.2.2.1 HX.out.2.2.2.2.1
        · exact AL.out.drew
        · exact HP.out.below (Below.refl _ _).drew
        · exact HV.out.below (Below.refl _ _).drew
      · have r0 := Lib.hid (HA.out.trans (if_neg fun z => h2 z.2.2))
        have j1 : (q.g == 0) = true := by simpa using h1
        have j1' : (q.g != 0) = false := by simpa using h1
        have j2 : (q.b == 0) = false := by simpa using h2
        have j2' : (q.b != 0) = true := by simpa using h2
        clear h1 h2 hl k0 hn hm hn0 hcap g1 g2
        go_enter Try.func34, Try.ntmps34
        go_upto_region 1 with fail
        rw [← Hw1.out]
        go_wp2_with fail
        go_ret
        exact eff_no r0.out AL.out
    · have r0 := Lib.hid (HA.out.trans (if_neg fun z => h1 z.2.1))
      have j1 : (q.g == 0) = false := by simpa using h1
      have j1' : (q.g != 0) = true := by simpa using h1
      clear h1 hl k0 hn hm hn0 hcap g1 g2
      go_enter Try.func34, Try.ntmps34
      go_upto_region 1 with fail
      rw [← Hw1.out]
      go_wp2_with fail
      go_ret
      exact eff_no r0.out AL.out
  · have r0 := Lib.hid (HA.out.trans (if_neg fun z => hl z.1))
    have hp : 0 < q.n := by
      rw [hn]
      exact List.length_pos_iff.2 hl
    have k1 : decide ((0 : Int) < (q.n : Int)) = true := by simp; exact hp
    have k2 : decide (0 < q.n) = true := by simp; exact hp
    clear hl hn hm hp hcap g1 g2
    go_enter Try.func34, Try.ntmps34
    go_upto_region 1 with fail
    rw [← Hw1.out]
    go_wp2_with fail
    go_ret
    exact eff_no r0.out AL.out
end Jr
end Go.Proofs.Ytljgalleiemaaaa
