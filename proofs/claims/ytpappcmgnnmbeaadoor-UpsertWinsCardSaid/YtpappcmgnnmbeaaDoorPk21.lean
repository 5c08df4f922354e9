/- Package upsert: Add of what may not be. Package upsert: winner (what is known of a row). Package upsert: Add, where the arguments may be. Package upsert: Add, where the arguments may be. -/
import Derived.Deep.RegionHeld3
import Derived.Test.YtpappcmgnnmbeaaDoorPk20
import Derived.Test.YtpappcmgnnmbeaaDoorPk17
import Derived.Test.YtpappcmgnnmbeaaDoorPk18
namespace Go.Proofs.YtpappcmgnnmbeaaDoor
set_option maxRecDepth 20000
open Go.RowKit Go.Maps
namespace Up
open Va (Vl)
open Sc (Sch FitS MayS tr tr_yes tr_no)
theorem add_nil (R : Option Addr) (m d : Nat) (seg doc off : Int) (w : World) : Calls Tryd.prog 25 #[.pointer none, .slice R m d, .agg #[.int .i64 seg, .int .i64 doc], .int .i64 off] w fun e w' => e = .returned (.int .i64 1) ∧ Below w.heap.size w w' := by
  have hb0 := (Below.refl w.heap.size w).alloc (Nat.le_refl _) (.cells #[.int .i64 seg, .int .i64 doc] 42)
  go_enter Tryd.func25, Tryd.ntmps25
  go_wp2_with fail
  go_ret
  exact ⟨rfl, hb0⟩
/-- The cells of a table's record. -/
theorem tabc {w : World} {t : Nat} {A : Option Addr} {n c : Nat} {s : Sch} {bd bw bs : Nat} (h : Wd.Bx w t 78 #[.slice A n c, .int .i64 s.key, .int .i64 s.cmp, .int .i64 s.del, .int .i64 s.sort, .map (some bd), .map (some bw), .map (some bs)]) :
    w.cell? ⟨t, 0, none⟩ = some (.slice A n c) ∧ w.cell? ⟨t, 1, none⟩ = some (.int .i64 s.key) ∧ w.cell? ⟨t, 2, none⟩ = some (.int .i64 s.cmp) ∧ w.cell? ⟨t, 3, none⟩ = some (.int .i64 s.del) ∧ w.cell? ⟨t, 4, none⟩ = some (.int .i64 s.sort) ∧
      w.cell? ⟨t, 5, none⟩ = some (.map (some bd)) ∧ w.cell? ⟨t, 6, none⟩ = some (.map (some bw)) ∧ w.cell? ⟨t, 7, none⟩ = some (.map (some bs)) :=
  ⟨h.cell 0, h.cell 1, h.cell 2, h.cell 3, h.cell 4, h.cell 5, h.cell 6, h.cell 7⟩
theorem plc {w : World} {g : Nat} {a b : Int} (h : Wd.Bx w g 42 #[.int .i64 a, .int .i64 b]) : w.cell? ⟨g, 0, none⟩ = some (.int .i64 a) ∧ w.cell? ⟨g, 1, none⟩ = some (.int .i64 b) := ⟨h.cell 0, h.cell 1⟩
theorem place_ok (seg doc off : Int) : PlaceOk seg doc off ↔ plB seg doc = true ∧ wn off 0 1099511627776 = true := by
  unfold PlaceOk plB wn
  simp only [Bool.and_eq_true, decide_eq_true_eq]
  omega
section
variable {w : World} {t : Nat} {A : Option Addr} {n c : Nat} {s : Sch} {bd bw bs : Nat}
set_option maxHeartbeats 4000000 in
theorem add_arg {R : Option Addr} {m d : Nat} {vs : List Vl} (h : Wd.Bx w t 78 #[.slice A n c, .int .i64 s.key, .int .i64 s.cmp, .int .i64 s.del, .int .i64 s.sort, .map (some bd), .map (some bw), .map (some bs)]) (hS : Wd.Cs w A n c s.cols) (hn : n ≤ 8) (hV : Wd.Vs w R m d vs) (seg doc off : Int) (hA : ¬ (FitS s vs ∧ PlaceOk seg doc off)) :
    Calls Tryd.prog 25 #[.pointer (some ⟨t, 0, none⟩), .slice R m d, .agg #[.int .i64 seg, .int .i64 doc], .int .i64 off] w fun e w' => e = .returned (.int .i64 1) ∧ Below w.heap.size w w' := by
  have hb0 := (Below.refl w.heap.size w).alloc (Nat.le_refl _) (.cells #[.int .i64 seg, .int .i64 doc] 42)
  have x0 := Wd.Bx.new w 42 #[.int .i64 seg, .int .i64 doc]
  have h1 := h.below h.lt hb0
  have Cf := Sx.Fits_any A n c s R m d vs _ (hS.below hb0) (hV.below hb0) (by omega)
  have Cp := mayPlace_any seg doc
  have Cw := within_any off 0 1099511627776
  obtain ⟨k1, hk1⟩ : ∃ x, x = tr (FitS s vs) := ⟨_, rfl⟩
  obtain ⟨k2, hk2⟩ : ∃ x, x = plB seg doc := ⟨_, rfl⟩
  obtain ⟨k3, hk3⟩ : ∃ x, x = wn off 0 1099511627776 := ⟨_, rfl⟩
  rw [← hk1] at Cf
  rw [← hk2] at Cp
  rw [← hk3] at Cw
  have hno : k1 = false ∨ (k1 = true ∧ k2 = false) ∨ (k1 = true ∧ k2 = true ∧ k3 = false) := by
    rw [place_ok, ← hk2, ← hk3, ← Sc.tr_iff (p := FitS s vs), ← hk1] at hA
    cases k1 <;> cases k2 <;> cases k3 <;> simp_all
  have Cf := Lib.hid Cf
  have Cp := Lib.hid Cp
  have Cw := Lib.hid Cw
  clear hA hk1 hk2 hk3 hV hS
  obtain ⟨c0, c1, c2, c3, c4, c5, c6, c7⟩ := tabc h1
  obtain ⟨y0, y1⟩ := plc x0
  have hsz : (w.alloc (.cells #[.int .i64 seg, .int .i64 doc] 42)).heap.size = w.heap.size + 1 := by simp
  go_enter Tryd.func25, Tryd.ntmps25
  go_wp2_with fail
  generalize hwa : w.alloc (.cells #[.int .i64 seg, .int .i64 doc] 42) = wa at *
  clear hwa
  have hsz' := Lib.hid hsz
  have hlt : w.heap.size < wa.heap.size := by omega
  clear hsz
  refine (Cf.out).mono ?_
  rintro e w1 ⟨rfl, hb1⟩
  have hb2 : Below w.heap.size w w1 := hb0.trans (hb1.mono hb0.size)
  have x1 := x0.below hlt hb1
  have h2 := h1.below h1.lt hb1
  clear c0 c1 c2 c3 c4 c5 c6 c7 y0 y1
  obtain ⟨y0, y1⟩ := plc x1
  rcases hno with rfl | ⟨rfl, rfl⟩ | ⟨rfl, rfl, rfl⟩
  · go_wp2_with fail
    go_ret
    exact ⟨rfl, hb2⟩
  · go_wp2_with fail
    refine (Cp.out _).mono ?_
    rintro e w2 ⟨rfl, hb3⟩
    go_wp2_with fail
    go_ret
    exact ⟨rfl, hb2.trans (hb3.mono hb2.size)⟩
  · go_wp2_with fail
    refine (Cp.out _).mono ?_
    rintro e w2 ⟨rfl, hb3⟩
    go_wp2_with fail
    refine (Cw.out _).mono ?_
    rintro e w3 ⟨rfl, rfl⟩
    go_wp2_with fail
    go_ret
    exact ⟨rfl, hb2.trans (hb3.mono hb2.size)⟩
end
end Up
end Go.Proofs.YtpappcmgnnmbeaaDoor
namespace Go.Proofs.YtpappcmgnnmbeaaDoor
set_option maxRecDepth 20000
open Go.RowKit Go.Maps
namespace Up
open Va (Vl)
open Sc (Sch FitS MayS tr tr_yes tr_no)
theorem res_cell1 {fn : Func} {p : Tmp} {ty : TypeId} (h : fn.results = #[.cell p ty]) (tmps : Array Value) (P : Program) (w : World) :
    (results fn tmps).run P w = ((asAddr (tmps.getD p undef)).run P w).andThen fun a w₁ => ((loadVar ty a).run P w₁) := by
  simp only [results, h]
  simp [Sem.run_bind, Result.andThen]
section
variable {w : World} {t : Nat} {A : Option Addr} {n c : Nat} {s : Sch} {bd bw bs : Nat}
set_option maxHeartbeats 4000000 in
theorem winner_lay {R : Option Addr} {m d : Nat} {vs : List Vl} (h : Wd.Bx w t 78 #[.slice A n c, .int .i64 s.key, .int .i64 s.cmp, .int .i64 s.del, .int .i64 s.sort, .map (some bd), .map (some bw), .map (some bs)]) (hV : Wd.Vs w R m d vs) (hF : FitS s vs) (hk : s.key ≠ -1) (seg doc off : Int) :
    Calls Tryd.prog 48 #[.pointer (some ⟨t, 0, none⟩), .slice R m d, .agg #[.int .i64 seg, .int .i64 doc], .int .i64 off] w fun e w' => e = .returned (wv (rw_ s vs seg doc off)) ∧ Below w.heap.size w w' := by
  have hlen := Sc.fits_len hF.2
  obtain ⟨q1, q2⟩ : (0 ≤ s.cmp ∧ s.cmp.toNat < vs.length) ∧ (s.del = -1 ∨ (0 ≤ s.del ∧ s.del.toNat < vs.length)) := by
    obtain ⟨-, -, -, -, -, -, h7⟩ := hF.1
    rcases h7 with ⟨e, _⟩ | ⟨_, _, h8, h9⟩
    · exact absurd e hk
    · refine ⟨⟨h8.1, ?_⟩, ?_⟩
      · obtain ⟨c, hc, _⟩ := h8.2
        rw [hlen]
        exact (List.getElem?_eq_some_iff.1 hc).1
      · rcases h9 with h9 | h9
        · exact .inl h9
        · refine .inr ⟨h9.1, ?_⟩
          obtain ⟨c, hc, _⟩ := h9.2
          rw [hlen]
          exact (List.getElem?_eq_some_iff.1 hc).1
  have hm := hV.len
  obtain ⟨p, hp⟩ : ∃ p : Nat, s.cmp = (p : Int) := ⟨s.cmp.toNat, by omega⟩
  have hb0 := (Below.refl w.heap.size w).alloc (Nat.le_refl _) (.cells #[.int .i64 seg, .int .i64 doc] 42)
  have hb1 := hb0.alloc hb0.size (.cells #[.int .i64 0, .int .i64 0, .int .i64 0, .int .i64 0, .bool false] 47)
  have x0 : Wd.Bx ((w.alloc (.cells #[.int .i64 seg, .int .i64 doc] 42)).alloc (.cells #[.int .i64 0, .int .i64 0, .int .i64 0, .int .i64 0, .bool false] 47)) w.heap.size 42 #[.int .i64 seg, .int .i64 doc] := Wd.Bx.alloc (Wd.Bx.new w _ _) _
  have z0 : Wd.Bx ((w.alloc (.cells #[.int .i64 seg, .int .i64 doc] 42)).alloc (.cells #[.int .i64 0, .int .i64 0, .int .i64 0, .int .i64 0, .bool false] 47)) (w.heap.size + 1) 47 #[.int .i64 0, .int .i64 0, .int .i64 0, .int .i64 0, .bool false] := by
    have := Wd.Bx.new (w.alloc (.cells #[.int .i64 seg, .int .i64 doc] 42)) 47 #[.int .i64 0, .int .i64 0, .int .i64 0, .int .i64 0, .bool false]
    simpa using this
  have h1 := h.below h.lt hb1
  have c2 := h1.cell 2
  have c3 := h1.cell 3
  simp at c2 c3
  rw [hp] at c2
  have hpl : p < vs.length := by omega
  have hpm : p < m := by omega
  obtain ⟨g1, f1, hR, hg1, d0, d1, d2, d3, _⟩ := (hV.below hb1).cells (j := p) hpl rfl
  subst hR
  have hsz : ((w.alloc (.cells #[.int .i64 seg, .int .i64 doc] 42)).alloc (.cells #[.int .i64 0, .int .i64 0, .int .i64 0, .int .i64 0, .bool false] 47)).heap.size = w.heap.size + 1 + 1 := by simp
  have hr : rw_ s vs seg doc off = ⟨vs.getD s.key.toNat default, (vs.getD p default).i, decide (s.del ≠ -1) && (vs.getD s.del.toNat default).b, seg, doc, off⟩ := by
    unfold rw_
    rw [if_neg hk, hp, Int.toNat_natCast]
  have hfz := z0.free
  have hcap := hV.cap
  by_cases hd : s.del = -1
  case pos =>
    have hr2 : wv (rw_ s vs seg doc off) = .agg #[.int .i64 seg, .int .i64 doc, .int .i64 (vs.getD p default).i, .int .i64 off, .bool false] := by
      rw [hr, hd]
      rfl
    rw [hr2]
    generalize (vs.getD p default).i = I at *
    clear hr hr2 q1 q2 hp d0 d2 d3 hF hk h hlen
    go_enter Tryd.func48, Tryd.ntmps48
    go_wp2_with fail
    generalize (w.alloc (.cells #[.int .i64 seg, .int .i64 doc] 42)).alloc (.cells #[.int .i64 0, .int .i64 0, .int .i64 0, .int .i64 0, .bool false] 47) = wa at *
    have y0 := x0.cell 0
    have y1 := x0.cell 1
    simp at y0 y1
    obtain ⟨u0, u1, u2, u3, u4⟩ := winc z0
    have htl := h1.lt
    have a1 := fun o => (World.cell?_alloc_lt wa o ⟨t, 2, none⟩ htl).trans c2
    have a2 := fun o => (World.cell?_alloc_lt wa o ⟨g1, f1 + p * 4 + 1, none⟩ hg1).trans d1
    have a3 := fun o => (World.cell?_alloc_lt wa o ⟨w.heap.size, 0, none⟩ (by simp; omega)).trans y0
    have a4 := fun o => (World.cell?_alloc_lt wa o ⟨w.heap.size, 1, none⟩ (by simp; omega)).trans y1
    have hsz' : wa.heap.size = w.heap.size + 1 + 1 := hsz
    go_region
    all_goals (
      have e1 := h1.alloc (.cells #[.int .i64 seg, .int .i64 doc, .int .i64 I, .int .i64 off, .bool false] 47)
      have e2 := z0.alloc (.cells #[.int .i64 seg, .int .i64 doc, .int .i64 I, .int .i64 off, .bool false] 47)
      have e3 := Wd.Bx.new wa 47 #[.int .i64 seg, .int .i64 doc, .int .i64 I, .int .i64 off, .bool false]
      have e4 := hb1.alloc hb1.size (.cells #[.int .i64 seg, .int .i64 doc, .int .i64 I, .int .i64 off, .bool false] 47)
      generalize hwb : (wa.alloc (.cells #[.int .i64 seg, .int .i64 doc, .int .i64 I, .int .i64 off, .bool false] 47)) = wb at *
      rw [hsz'] at e3
      have b3 := e1.cell 3
      simp at b3
      rw [hd] at b3
      have b4 := e2.free
      have b5 := e3.free
      obtain ⟨v0, v1, v2, v3, v4⟩ := winc e2
      obtain ⟨x0, x1, x2, x3, x4⟩ := winc e3
      go_wp2_with fail
      (try simp only [Exit.inBlock, Exit.then])
      refine bodyPost_ret (v := .agg #[.int .i64 seg, .int .i64 doc, .int .i64 I, .int .i64 off, .bool false]) ?_ rfl ⟨rfl, ?_⟩
      · rw [res_cell1 rfl]; go_simp
      · exact (bel5 (g := w.heap.size + 1) e4 (by omega) _ _ _ _ _).drew)
  case neg =>
    have q3 := q2.resolve_left hd
    obtain ⟨p2, hp2⟩ : ∃ p2 : Nat, s.del = (p2 : Int) := ⟨s.del.toNat, by omega⟩
    have hr2 : wv (rw_ s vs seg doc off) = .agg #[.int .i64 seg, .int .i64 doc, .int .i64 (vs.getD p default).i, .int .i64 off, .bool (vs.getD p2 default).b] := by
      rw [hr, decide_eq_true hd, hp2, Int.toNat_natCast]
      simp [wv]
    obtain ⟨B2, hB2⟩ : ∃ x, x = (vs.getD p2 default).b := ⟨_, rfl⟩
    rw [hr2, ← hB2]
    have hpl2 : p2 < vs.length := by omega
    have hpm2 : p2 < m := by omega
    have hD := Lib.hid fun (wx : World) (hb : Below w.heap.size w wx) => (hV.below hb).cells (j := p2) hpl2 rfl
    have HB2 := Lib.hid hB2
    clear hB2
    generalize (vs.getD p default).i = I at *
    clear hr hr2 q1 q2 q3 hp d0 d2 d3 hF hk h hlen
    go_enter Tryd.func48, Tryd.ntmps48
    go_wp2_with fail
    generalize (w.alloc (.cells #[.int .i64 seg, .int .i64 doc] 42)).alloc (.cells #[.int .i64 0, .int .i64 0, .int .i64 0, .int .i64 0, .bool false] 47) = wa at *
    have y0 := x0.cell 0
    have y1 := x0.cell 1
    simp at y0 y1
    obtain ⟨u0, u1, u2, u3, u4⟩ := winc z0
    have htl := h1.lt
    have a1 := fun o => (World.cell?_alloc_lt wa o ⟨t, 2, none⟩ htl).trans c2
    have a2 := fun o => (World.cell?_alloc_lt wa o ⟨g1, f1 + p * 4 + 1, none⟩ hg1).trans d1
    have a3 := fun o => (World.cell?_alloc_lt wa o ⟨w.heap.size, 0, none⟩ (by simp; omega)).trans y0
    have a4 := fun o => (World.cell?_alloc_lt wa o ⟨w.heap.size, 1, none⟩ (by simp; omega)).trans y1
    have hsz' : wa.heap.size = w.heap.size + 1 + 1 := hsz
    go_region
    all_goals (
      have e1 := h1.alloc (.cells #[.int .i64 seg, .int .i64 doc, .int .i64 I, .int .i64 off, .bool false] 47)
      have e2 := z0.alloc (.cells #[.int .i64 seg, .int .i64 doc, .int .i64 I, .int .i64 off, .bool false] 47)
      have e3 := Wd.Bx.new wa 47 #[.int .i64 seg, .int .i64 doc, .int .i64 I, .int .i64 off, .bool false]
      have e4 := hb1.alloc hb1.size (.cells #[.int .i64 seg, .int .i64 doc, .int .i64 I, .int .i64 off, .bool false] 47)
      generalize hwb : (wa.alloc (.cells #[.int .i64 seg, .int .i64 doc, .int .i64 I, .int .i64 off, .bool false] 47)) = wb at *
      rw [hsz'] at e3
      have b3 := e1.cell 3
      simp at b3
      rw [hp2] at b3
      obtain ⟨g2, f2, hR2, _, _, _, _, d7, _⟩ := hD.out _ e4
      cases hR2
      rw [← HB2.out] at d7
      have b4 := e2.free
      have b5 := e3.free
      obtain ⟨v0, v1, v2, v3, v4⟩ := winc e2
      obtain ⟨x0, x1, x2, x3, x4⟩ := winc e3
      go_wp2_with fail
      (try simp only [Exit.inBlock, Exit.then])
      refine bodyPost_ret (v := .agg #[.int .i64 seg, .int .i64 doc, .int .i64 I, .int .i64 off, .bool B2]) ?_ rfl ⟨rfl, ?_⟩
      · rw [res_cell1 rfl]; go_simp
      · exact (bel5 (g := w.heap.size + 1) (e4.setCell (p := ⟨w.heap.size + 1 + 1, 4, none⟩) (by simp; omega) _) (by omega) _ _ _ _ _).drew)
end
end Up
end Go.Proofs.YtpappcmgnnmbeaaDoor
namespace Go.Proofs.YtpappcmgnnmbeaaDoor
set_option maxRecDepth 20000
open Go.RowKit Go.Maps
namespace Up
open Va (Vl)
open Sc (Sch FitS MayS tr tr_yes tr_no)
section
variable {w w' : World} {t : Nat} {A : Option Addr} {n c : Nat} {s : Sch} {bd bw bs nd nw ns : Nat} {fd fw : Int → Option Value} {sg : Vl → Option Int} {W : Vl → Option Rw} {Dc : Int → List Int} {N : Nat} {F : Nat → Prop}
/-- A segment's set is written down. -/
theorem Lay.docset (h : Lay w t A n c s bd bw bs nd nw ns fd fw sg W Dc N F) {g : Int} (hwf : (Lit.int .i64 g).wf = true) {A2 : Option Addr} {n2 c2 : Nat} {X : List Int} (hst : Bw.St w A2 n2 c2 X) (hN : N + 1 < maxLen) :
    ∃ w' nd' fd', (Instr.mapUpdate 74 (.map (some bd)) (.int .i64 g) (.agg #[.slice A2 n2 c2])).run Tryd.prog w = .ok () w' ∧ w.grownBy w' (some bd) ∧
      Lay w' t A n c s bd bw bs nd' nw ns fd' fw sg W (fun x => if x = g then X else Dc x) (N + 1) F := by
  obtain ⟨w', r1, r2, r3⟩ := h.docs.store Tryd.underlying74 (by have := h.nn; omega) (x := g) hwf (.agg #[.slice A2 n2 c2])
  have h1 := h.mono (Nat.le_succ N)
  have hal := alien_one h.docs
  have mv := mv_one r3
  obtain ⟨e1, e2, e3⟩ := h.ne
  have k : ∀ x, x < w.heap.size → x ≠ bd → w'.heap[x]? = w.heap[x]? := fun x hx q => mv.keep x hx q
  refine ⟨w', _, _, r1, r3, ⟨h.box.at_ (k _ h.box.lt (h.tb h.docs)), cs_alien h.sch hal mv, r2, h.wins.keep (k _ h.wins.lt (Ne.symm e1)), h.segs.keep (k _ h.segs.lt (Ne.symm e2)), fun x => ?_, fun g' => ?_, h.ne, h.inj, h.ft, h.fo, ?_⟩⟩
  · by_cases e : x = g
    · subst e
      unfold upd
      simp only [if_pos]
      exact ⟨_, _, _, rfl, st_alien hst hal mv⟩
    · unfold upd
      simp only [if_neg e]
      exact (h.dd x).keep hal mv
  · have h3 := h1.ii g'
    rcases h1.winv g' with q | ⟨b', q⟩
    · rw [q] at h3 ⊢
      exact h3
    · obtain ⟨m', hm', z1, z2, z3, z4, z5⟩ := h1.inner q
      rw [q]
      exact ⟨b', m', rfl, hm'.keep (k _ hm'.lt z3), z1, z2, z3, z4, z5⟩
  · have := h.nn
    split <;> omega
theorem cells_keep {w5 w6 : World} {P g1 o p : Nat} {seg doc : Int} {v : Vl} {sg2 : Vl → Option Int} {W2 : Vl → Option Rw} (hl : Lay w5 t A n c s bd bw bs nd nw ns fd fw sg2 W2 Dc N F) (mv : Wd.Mv F w5 w6) (hb : Wd.Bx w6 t 78 #[.slice A n c, .int .i64 s.key, .int .i64 s.cmp, .int .i64 s.del, .int .i64 s.sort, .map (some bd), .map (some bw), .map (some bs)]) (hP : ¬ F P) (hlt : P < w5.heap.size) (hg : g1 < w5.heap.size) (hk : s.key = (p : Int))
    (h : (w5.cell? ⟨t, 1, none⟩ = some (.int .i64 (p : Int)) ∧ w5.cell? ⟨P, 0, none⟩ = some (.int .i64 seg) ∧ w5.cell? ⟨P, 1, none⟩ = some (.int .i64 doc)) ∧ w5.cell? ⟨g1, o, none⟩ = some (.int .i64 v.kind) ∧ w5.cell? ⟨g1, o + 1, none⟩ = some (.int .i64 v.i) ∧ w5.cell? ⟨g1, o + 2, none⟩ = some (.string v.s) ∧ w5.cell? ⟨g1, o + 3, none⟩ = some (.bool v.b)) :
    (w6.cell? ⟨t, 1, none⟩ = some (.int .i64 (p : Int)) ∧ w6.cell? ⟨P, 0, none⟩ = some (.int .i64 seg) ∧ w6.cell? ⟨P, 1, none⟩ = some (.int .i64 doc)) ∧ w6.cell? ⟨g1, o, none⟩ = some (.int .i64 v.kind) ∧ w6.cell? ⟨g1, o + 1, none⟩ = some (.int .i64 v.i) ∧ w6.cell? ⟨g1, o + 2, none⟩ = some (.string v.s) ∧ w6.cell? ⟨g1, o + 3, none⟩ = some (.bool v.b) := by
  obtain ⟨⟨h1, h2, h3⟩, h4, h5, h6, h7⟩ := h
  have c1 := (tabc hb).2.1
  rw [hk] at c1
  have kP := fun o => World.cell?_of_block (a := ⟨P, o, none⟩) (mv.keep P hlt hP)
  have ks := keep_str hl.alien mv hg h6
  exact ⟨⟨c1, (kP 0).trans h2, (kP 1).trans h3⟩, (ks _).trans h4, (ks _).trans h5, (ks _).trans h6, (ks _).trans h7⟩
theorem i64_of {x : Int} (h : (Lit.int .i64 x).wf = true) : Bi.I64 x := ⟨(bounds_i64 h).1, (bounds_i64 h).2⟩
set_option maxHeartbeats 4000000 in
theorem add_here {R : Option Addr} {m d : Nat} {vs : List Vl} (h : Lay w t A n c s bd bw bs nd nw ns fd fw (fun v => (W v).map Rw.seg) W Dc N F) (hn : n ≤ 8) (hV : Wd.Vs w R m d vs) {seg doc off : Int} (hF : FitS s vs) (hP : PlaceOk seg doc off) (hhas : decide (doc ∈ Dc seg) = true) :
    Calls Tryd.prog 25 #[.pointer (some ⟨t, 0, none⟩), .slice R m d, .agg #[.int .i64 seg, .int .i64 doc], .int .i64 off] w fun e w' => e = .returned (.int .i64 5) ∧ Below w.heap.size w w' := by
  have hws : (Lit.int .i64 seg).wf = true := wf_seg (by have := hP.1; have := hP.2.1; omega)
  have hwd : (Lit.int .i64 doc).wf = true := wf_seg (by have := hP.2.2.1; have := hP.2.2.2.1; omega)
  have hb0 := (Below.refl w.heap.size w).alloc (Nat.le_refl _) (.cells #[.int .i64 seg, .int .i64 doc] 42)
  have x0 := Wd.Bx.new w 42 #[.int .i64 seg, .int .i64 doc]
  have h1 := h.box.below h.box.lt hb0
  have Cf := Sx.Fits_any A n c s R m d vs _ (h.sch.below hb0) (hV.below hb0) (by omega)
  have Cp := mayPlace_any seg doc
  have Cw := within_any off 0 1099511627776
  have hp := (place_ok seg doc off).1 hP
  rw [tr_yes hF] at Cf
  rw [hp.1] at Cp
  rw [hp.2] at Cw
  obtain ⟨SA, sn, sc, hSv, hSt⟩ := h.setv seg
  have Ch := Lib.hid fun (wx : World) (hx : Below w.heap.size w wx) => (show Calls Tryd.prog 28 #[.agg #[.slice SA sn sc], .int .i64 doc] wx fun e w' => e = .returned (.bool true) ∧ Below wx.heap.size wx w' by
    have := Bw.has_any SA sn sc (Dc seg) doc wx (st_below hSt hx) (i64_of hwd)
    rwa [hhas] at this)
  have hlk := Lib.hid fun (wx : World) (hx : Below w.heap.size w wx) => (show (Instr.lookup 74 (.map (some bd)) (.int .i64 seg) false).run Tryd.prog wx = .ok (.agg #[.slice SA sn sc]) wx by
    have := (h.below hx).docs.look Tryd.underlying74 (zero_set _) (x := seg) hws
    rwa [hSv] at this)

  have Cf := Lib.hid Cf
  have Cp := Lib.hid Cp
  have Cw := Lib.hid Cw
  have hP := Lib.hid hP
  have hF := Lib.hid hF
  have h := Lib.hid h
  have hV := Lib.hid hV
  have hws := Lib.hid hws
  have hSt := Lib.hid hSt
  clear hp hwd hSv
  obtain ⟨c0, c1, c2, c3, c4, c5, c6, c7⟩ := tabc h1
  obtain ⟨y0, y1⟩ := plc x0
  have hsz : (w.alloc (.cells #[.int .i64 seg, .int .i64 doc] 42)).heap.size = w.heap.size + 1 := by simp
  go_enter Tryd.func25, Tryd.ntmps25
  go_wp2_with fail
  generalize hwa : w.alloc (.cells #[.int .i64 seg, .int .i64 doc] 42) = wa at *
  clear hwa
  have hlt : w.heap.size < wa.heap.size := by omega
  clear hsz
  refine (Cf.out).mono ?_
  rintro e w1 ⟨rfl, hb1⟩
  have hb2 : Below w.heap.size w w1 := hb0.trans (hb1.mono hb0.size)
  have x1 := x0.below hlt hb1
  have h2 := h1.below h1.lt hb1
  clear c0 c1 c2 c3 c4 c5 c6 c7 y0 y1
  obtain ⟨y0, y1⟩ := plc x1
  go_wp2_with fail
  refine (Cp.out _).mono ?_
  rintro e w2 ⟨rfl, hb3⟩
  have hb4 : Below w.heap.size w w2 := hb2.trans (hb3.mono hb2.size)
  have x2 := x1.below x1.lt hb3
  have h3 := h2.below h2.lt hb3
  clear y0 y1 hb1 hb0 h1 x0
  obtain ⟨y0, y1⟩ := plc x2
  have c5 := (tabc h3).2.2.2.2.2.1
  have k1 := hlk.out _ hb4.drew
  go_wp2_with fail
  refine (Cw.out _).mono ?_
  rintro e w3 ⟨rfl, rfl⟩
  go_upto_region 3 with fail
  go_cut [40] (fun hv wx => hv = .bool true ∧ Below w2.heap.size w2 wx)
  case first =>
    go_region_with (first | (go_at_call 28; (with_reducible refine (Ch.out _ hb4.drew).mono ?_); rintro e w4 ⟨rfl, hb5⟩))
    all_goals (go_wp2_with fail; go_meet; exact ⟨rfl, Wd.of_drew hb5⟩)
  case rest =>
  obtain ⟨rfl, hb5⟩ := hcut
  go_wp2_with fail
  go_ret
  exact ⟨rfl, hb4.trans (hb5.mono hb4.size)⟩
end
end Up
end Go.Proofs.YtpappcmgnnmbeaaDoor
namespace Go.Proofs.YtpappcmgnnmbeaaDoor
set_option maxRecDepth 20000
open Go.RowKit Go.Maps
namespace Up
open Va (Vl)
open Sc (Sch FitS MayS tr tr_yes tr_no)
section
variable {w w' : World} {t : Nat} {A : Option Addr} {n c : Nat} {s : Sch} {bd bw bs nd nw ns : Nat} {fd fw : Int → Option Value} {sg : Vl → Option Int} {W : Vl → Option Rw} {Dc : Int → List Int} {N : Nat} {F : Nat → Prop}
set_option maxHeartbeats 4000000 in
theorem add_free {R : Option Addr} {m d : Nat} {vs : List Vl} (h : Lay w t A n c s bd bw bs nd nw ns fd fw (fun v => (W v).map Rw.seg) W Dc N F) (hn : n ≤ 8) (hV : Wd.Vs w R m d vs) {seg doc off : Int} (hF : FitS s vs) (hP : PlaceOk seg doc off) (hN : N + 8 < maxLen) (hhas : decide (doc ∈ Dc seg) = false) (hk : s.key = -1) :
    Calls Tryd.prog 25 #[.pointer (some ⟨t, 0, none⟩), .slice R m d, .agg #[.int .i64 seg, .int .i64 doc], .int .i64 off] w fun e w' => e = .returned (.int .i64 0) ∧ Wd.Mv F w w' ∧ ∃ nd' fd', Lay w' t A n c s bd bw bs nd' nw ns fd' fw (fun v => (W v).map Rw.seg) W (fun x => if x = seg then Bs.withL (Dc seg) doc else Dc x) (N + 1) F := by
  have hws : (Lit.int .i64 seg).wf = true := wf_seg (by have := hP.1; have := hP.2.1; omega)
  have hwd : (Lit.int .i64 doc).wf = true := wf_seg (by have := hP.2.2.1; have := hP.2.2.2.1; omega)
  have hb0 := (Below.refl w.heap.size w).alloc (Nat.le_refl _) (.cells #[.int .i64 seg, .int .i64 doc] 42)
  have x0 := Wd.Bx.new w 42 #[.int .i64 seg, .int .i64 doc]
  have h1 := h.box.below h.box.lt hb0
  have Cf := Sx.Fits_any A n c s R m d vs _ (h.sch.below hb0) (hV.below hb0) (by omega)
  have Cp := mayPlace_any seg doc
  have Cw := within_any off 0 1099511627776
  have hp := (place_ok seg doc off).1 hP
  rw [tr_yes hF] at Cf
  rw [hp.1] at Cp
  rw [hp.2] at Cw
  obtain ⟨SA, sn, sc, hSv, hSt⟩ := h.setv seg
  have Ch := Lib.hid fun (wx : World) (hx : Below w.heap.size w wx) => (show Calls Tryd.prog 28 #[.agg #[.slice SA sn sc], .int .i64 doc] wx fun e w' => e = .returned (.bool false) ∧ Below wx.heap.size wx w' by
    have := Bw.has_any SA sn sc (Dc seg) doc wx (st_below hSt hx) (i64_of hwd)
    rwa [hhas] at this)
  have hlk := Lib.hid fun (wx : World) (hx : Below w.heap.size w wx) => (show (Instr.lookup 74 (.map (some bd)) (.int .i64 seg) false).run Tryd.prog wx = .ok (.agg #[.slice SA sn sc]) wx by
    have := (h.below hx).docs.look Tryd.underlying74 (zero_set _) (x := seg) hws
    rwa [hSv] at this)

  have Cf := Lib.hid Cf
  have Cp := Lib.hid Cp
  have Cw := Lib.hid Cw
  have hP := Lib.hid hP
  have hF := Lib.hid hF
  have h := Lib.hid h
  have hV := Lib.hid hV
  have hws := Lib.hid hws
  have hSt := Lib.hid hSt
  have hk2 := Lib.hid (show kdS s = false from decide_eq_false (by simp [hk]))
  clear hk
  clear hp hwd hSv
  obtain ⟨c0, c1, c2, c3, c4, c5, c6, c7⟩ := tabc h1
  obtain ⟨y0, y1⟩ := plc x0
  have hsz : (w.alloc (.cells #[.int .i64 seg, .int .i64 doc] 42)).heap.size = w.heap.size + 1 := by simp
  go_enter Tryd.func25, Tryd.ntmps25
  go_wp2_with fail
  generalize hwa : w.alloc (.cells #[.int .i64 seg, .int .i64 doc] 42) = wa at *
  clear hwa
  have hlt : w.heap.size < wa.heap.size := by omega
  clear hsz
  refine (Cf.out).mono ?_
  rintro e w1 ⟨rfl, hb1⟩
  have hb2 : Below w.heap.size w w1 := hb0.trans (hb1.mono hb0.size)
  have x1 := x0.below hlt hb1
  have h2 := h1.below h1.lt hb1
  clear c0 c1 c2 c3 c4 c5 c6 c7 y0 y1
  obtain ⟨y0, y1⟩ := plc x1
  go_wp2_with fail
  refine (Cp.out _).mono ?_
  rintro e w2 ⟨rfl, hb3⟩
  have hb4 : Below w.heap.size w w2 := hb2.trans (hb3.mono hb2.size)
  have x2 := x1.below x1.lt hb3
  have h3 := h2.below h2.lt hb3
  clear y0 y1 hb1 hb0 h1 x0
  obtain ⟨y0, y1⟩ := plc x2
  have c5 := (tabc h3).2.2.2.2.2.1
  have k1 := hlk.out _ hb4.drew
  go_wp2_with fail
  refine (Cw.out _).mono ?_
  rintro e w3 ⟨rfl, rfl⟩
  go_upto_region 3 with fail
  go_cut [40] (fun hv wx => hv = .bool false ∧ Below w2.heap.size w2 wx)
  case first =>
    go_region_with (first | (go_at_call 28; (with_reducible refine (Ch.out _ hb4.drew).mono ?_); rintro e w4 ⟨rfl, hb5⟩))
    all_goals (go_wp2_with fail; go_meet; exact ⟨rfl, Wd.of_drew hb5⟩)
  case rest =>
  obtain ⟨rfl, hb5⟩ := hcut
  have hb6 : Below w.heap.size w wc := hb4.trans (hb5.mono hb4.size)
  have x3 : Wd.Bx wc w.heap.size 42 #[.int .i64 seg, .int .i64 doc] := x2.below x2.lt hb5
  have h4 : Wd.Bx wc t 78 #[.slice A n c, .int .i64 s.key, .int .i64 s.cmp, .int .i64 s.del, .int .i64 s.sort, .map (some bd), .map (some bw), .map (some bs)] := h3.below h3.lt hb5
  clear y0 y1 c5 hb5 k1
  have Ck := keyed_any h4
  rw [hk2.out] at Ck
  have Ck := Lib.hid Ck
  go_wp2_with fail
  refine (Ck.out).mono ?_
  rintro e wx ⟨rfl, e5⟩
  obtain ⟨w4, hw4⟩ : ∃ w4, w4 = wc := ⟨_, rfl⟩
  rw [e5, ← hw4]
  rw [← hw4] at hb6 x3 h4
  clear e5 hw4
  have hL := Lib.hid (h.out.below hb6)
  have hbd : bd < w.heap.size := h.out.docs.lt
  obtain ⟨SB, sm, sd, hSv2, hSt2⟩ := hL.out.setv seg
  have k2 : (Instr.lookup 74 (.map (some bd)) (.int .i64 seg) false).run Tryd.prog w4.drew = .ok (.agg #[.slice SB sm sd]) w4.drew := by
    have := (hL.out.below (Below.refl _ _).drew).docs.look Tryd.underlying74 (zero_set _) (x := seg) hws.out
    rwa [hSv2] at this
  obtain ⟨y0, y1⟩ := plc x3
  have c5 := (tabc h4).2.2.2.2.2.1
  have hcA : w4.cell? ⟨t, 5, none⟩ = some (.map (some bd)) ∧ w4.cell? ⟨w.heap.size, 0, none⟩ = some (.int .i64 seg) ∧ w4.cell? ⟨w.heap.size, 1, none⟩ = some (.int .i64 doc) := ⟨c5, y0, y1⟩
  have Cv := Lib.hid fun (wx : World) (hx : Below w4.heap.size w4 wx) => Bw.with_any SB sm sd (Dc seg) doc wx (st_below hSt2 hx)
  clear hSv2 hSt2
  go_wp2_with fail
  go_region_held3 (fun w' => w'.cell? ⟨t, 5, none⟩ = some (.map (some bd)) ∧ w'.cell? ⟨w.heap.size, 0, none⟩ = some (.int .i64 seg) ∧ w'.cell? ⟨w.heap.size, 1, none⟩ = some (.int .i64 doc))
    (first | exact hcC | exact hcB | exact hcA | go_keep)
    (first | (go_at_call 49; (with_reducible refine (Cv.out _ ((Below.refl _ _).drew)).mono ?_); rintro e w5 ⟨A2, n2, c2, rfl, hst2, hb7⟩; have hb8 : Below w4.heap.size w4 w5 := Wd.of_drew hb7; have hcB : w5.cell? ⟨t, 5, none⟩ = some (.map (some bd)) ∧ w5.cell? ⟨w.heap.size, 0, none⟩ = some (.int .i64 seg) ∧ w5.cell? ⟨w.heap.size, 1, none⟩ = some (.int .i64 doc) := ⟨(hb7.cell (p := ⟨t, 5, none⟩) h4.lt).trans c5, (hb7.cell (p := ⟨w.heap.size, 0, none⟩) x3.lt).trans y0, (hb7.cell (p := ⟨w.heap.size, 1, none⟩) x3.lt).trans y1⟩; obtain ⟨w6, nd', fd', e1, e2, e3⟩ := Lay.docset (hL.out.below hb8) hws.out hst2 (by omega); have hcC : w6.cell? ⟨t, 5, none⟩ = some (.map (some bd)) ∧ w6.cell? ⟨w.heap.size, 0, none⟩ = some (.int .i64 seg) ∧ w6.cell? ⟨w.heap.size, 1, none⟩ = some (.int .i64 doc) := ⟨(tabc e3.box).2.2.2.2.2.1, plc (Wd.Bx.grown (Wd.Bx.below (w := w4.drew) x3 x3.lt hb7) e2 (fun q => by injection q with q; omega))⟩; have HR := Lib.hid (And.intro hb8 (And.intro e2 e3)); clear e2 e3))
  all_goals (
    go_wp2_with fail
    go_ret
    exact ⟨rfl, ((Wd.Mv.of_below hb6).then (Wd.Mv.of_below HR.out.1)).then (Wd.Mv.of_grown HR.out.2.1 (fun g e => by cases e; exact h.out.ft.2.1)), nd', fd', HR.out.2.2⟩)
end
end Up
end Go.Proofs.YtpappcmgnnmbeaaDoor
