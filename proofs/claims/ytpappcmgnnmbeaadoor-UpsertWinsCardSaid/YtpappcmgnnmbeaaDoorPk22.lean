/- Package upsert: Add, where the arguments may be. Package upsert: Add, where the arguments may be. -/
import Derived.Deep.RegionHeld3
import Derived.Test.YtpappcmgnnmbeaaDoorPk21
namespace Go.Proofs.YtpappcmgnnmbeaaDoor
set_option maxRecDepth 20000
open Go.RowKit Go.Maps
namespace Up
open Va (Vl)
open Sc (Sch FitS MayS tr tr_yes tr_no)
section
variable {w w' : World} {t : Nat} {A : Option Addr} {n c : Nat} {s : Sch} {bd bw bs nd nw ns : Nat} {fd fw : Int → Option Value} {sg : Vl → Option Int} {W : Vl → Option Rw} {Dc : Int → List Int} {N : Nat} {F : Nat → Prop}
set_option maxHeartbeats 4000000 in
theorem add_tie {R : Option Addr} {m d : Nat} {vs : List Vl} (h : Lay w t A n c s bd bw bs nd nw ns fd fw (fun v => (W v).map Rw.seg) W Dc N F) (hn : n ≤ 8) (hV : Wd.Vs w R m d vs) {seg doc off : Int} (hF : FitS s vs) (hP : PlaceOk seg doc off) (hN : N + 8 < maxLen) (hO : SegOk W) (hhas : decide (doc ∈ Dc seg) = false) (hk : s.key ≠ -1) {v : Vl} (hv : v = vs.getD s.key.toNat default) {r : Rw} (hr : r = rw_ s vs seg doc off) (hT : TieW W v r) :
    Calls Tryd.prog 25 #[.pointer (some ⟨t, 0, none⟩), .slice R m d, .agg #[.int .i64 seg, .int .i64 doc], .int .i64 off] w fun e w' => e = .returned (.int .i64 5) ∧ Wd.Mv F w w' ∧ Lay w' t A n c s bd bw bs nd nw ns fd fw (fun v => (W v).map Rw.seg) W Dc N F := by
  have hws : (Lit.int .i64 seg).wf = true := wf_seg (by have := hP.1; have := hP.2.1; omega)
  have hwd : (Lit.int .i64 doc).wf = true := wf_seg (by have := hP.2.2.1; have := hP.2.2.2.1; omega)
  have hb0 := (Below.refl w.heap.size w).alloc (Nat.le_refl _) (.cells #[.int .i64 seg, .int .i64 doc] 42)
  have x0 := Wd.Bx.new w 42 #[.int .i64 seg, .int .i64 doc]
  have h1 := h.box.below h.box.lt hb0
  have Cf := Sx.Fits_any A n c s R m d vs _ (h.sch.below hb0) (hV.below hb0) (by omega)
  have Cp := mayPlace_any seg doc
  have Cw := within_any off 0 1099511627776
  have hp := (place_ok seg doc off).1 hP
  rw [tr_yes hF] at Cf
  rw [hp.1] at Cp
  rw [hp.2] at Cw
  obtain ⟨SA, sn, sc, hSv, hSt⟩ := h.setv seg
  have Ch := Lib.hid fun (wx : World) (hx : Below w.heap.size w wx) => (show Calls Tryd.prog 28 #[.agg #[.slice SA sn sc], .int .i64 doc] wx fun e w' => e = .returned (.bool false) ∧ Below wx.heap.size wx w' by
    have := Bw.has_any SA sn sc (Dc seg) doc wx (st_below hSt hx) (i64_of hwd)
    rwa [hhas] at this)
  have hlk := Lib.hid fun (wx : World) (hx : Below w.heap.size w wx) => (show (Instr.lookup 74 (.map (some bd)) (.int .i64 seg) false).run Tryd.prog wx = .ok (.agg #[.slice SA sn sc]) wx by
    have := (h.below hx).docs.look Tryd.underlying74 (zero_set _) (x := seg) hws
    rwa [hSv] at this)

  have Cf := Lib.hid Cf
  have Cp := Lib.hid Cp
  have Cw := Lib.hid Cw
  have hP := Lib.hid hP
  have hF := Lib.hid hF
  have h := Lib.hid h
  have hV := Lib.hid hV
  have hws := Lib.hid hws
  have hSt := Lib.hid hSt
  have hk2 := Lib.hid (show kdS s = true from decide_eq_true hk)
  obtain ⟨p, hp0, hpl⟩ : ∃ p : Nat, s.key = (p : Int) ∧ p < vs.length := by
    obtain ⟨-, -, -, -, -, -, h7⟩ := hF.out.1
    rcases h7 with ⟨e, _⟩ | ⟨_, h8, _⟩
    · exact absurd e hk
    · obtain ⟨c, hc, _⟩ := h8.2
      have h9 := (List.getElem?_eq_some_iff.1 hc).1
      rw [← Sc.fits_len hF.out.2] at h9
      have := h8.1
      exact ⟨s.key.toNat, by omega, h9⟩
  have Cwin := Lib.hid fun (wx : World) (hx : Below w.heap.size w wx) => (show Calls Tryd.prog 48 #[.pointer (some ⟨t, 0, none⟩), .slice R m d, .agg #[.int .i64 seg, .int .i64 doc], .int .i64 off] wx fun e w' => e = .returned (.agg #[.int .i64 r.seg, .int .i64 r.doc, .int .i64 r.cmp, .int .i64 r.off, .bool r.gone]) ∧ Below wx.heap.size wx w' by
    rw [hr]
    exact winner_lay (h.out.box.below h.out.box.lt hx) (hV.out.below hx) hF.out hk seg doc off)
  have hvc := hV.out.cells (j := p) hpl (o := v) (by rw [hv, hp0, Int.toNat_natCast])
  obtain ⟨g1, f1, hR, hg1, d0, d1, d2, d3, hv1⟩ := hvc
  have hsv : v.s.size ≤ maxLen := by
    have h1 := ((Sc.fits_get _ _).1 hF.out.2).2 p (by rw [← Sc.fits_len hF.out.2]; exact hpl)
    have h2 : vs.getD p ⟨0, 0, ⟨#[]⟩, false⟩ = v := by
      rw [hv, hp0, Int.toNat_natCast]
      rfl
    rw [h2] at h1
    have h3 := h1.1.1
    unfold maxLen
    rcases h3 with q | q | q | q
    · rw [q.2.2.1]; exact Nat.zero_le _
    · rw [q.2.1]; exact Nat.zero_le _
    · have := q.2.2.1; omega
    · rw [q.2.2]; exact Nat.zero_le _
  have hrs : 0 ≤ r.seg ∧ r.seg ≤ 1073741824 := by
    rw [hr, (rw_seg s vs seg doc off).1]
    exact ⟨hP.out.1, hP.out.2.1⟩
  have Ccm := Lib.hid fun (wx : World) (hx : Below w.heap.size w wx) => (show Calls Tryd.prog 47 #[.pointer (some ⟨t, 0, none⟩), .agg #[.int .i64 v.kind, .int .i64 v.i, .string v.s, .bool v.b], .agg #[.int .i64 r.seg, .int .i64 r.doc, .int .i64 r.cmp, .int .i64 r.off, .bool r.gone]] wx fun e w' => e = .returned (.int .i64 5) ∧ Wd.Mv F wx w' ∧ Lay w' t A n c s bd bw bs nd nw ns fd fw (fun v => (W v).map Rw.seg) W Dc N F from
    (compete_lay (h.out.below hx) hO ⟨hv1, hsv⟩ hrs (by omega)).mono fun e w' ⟨h1, h2⟩ => by
      rcases h2 with ⟨_, h3, h4⟩ | ⟨h3, _⟩
      · exact ⟨h3, h1, h4⟩
      · exact absurd hT h3)
  have hpm : p < m := by have := hV.out.len; omega
  have hcap := hV.out.cap
  replace hp0 := Lib.hid hp0
  subst hR
  clear hv hr hk hT hpl hsv hv1 hrs
  clear hp hwd hSv
  obtain ⟨c0, c1, c2, c3, c4, c5, c6, c7⟩ := tabc h1
  obtain ⟨y0, y1⟩ := plc x0
  have hsz : (w.alloc (.cells #[.int .i64 seg, .int .i64 doc] 42)).heap.size = w.heap.size + 1 := by simp
  go_enter Tryd.func25, Tryd.ntmps25
  go_wp2_with fail
  generalize hwa : w.alloc (.cells #[.int .i64 seg, .int .i64 doc] 42) = wa at *
  clear hwa
  have hlt : w.heap.size < wa.heap.size := by omega
  clear hsz
  refine (Cf.out).mono ?_
  rintro e w1 ⟨rfl, hb1⟩
  have hb2 : Below w.heap.size w w1 := hb0.trans (hb1.mono hb0.size)
  have x1 := x0.below hlt hb1
  have h2 := h1.below h1.lt hb1
  clear c0 c1 c2 c3 c4 c5 c6 c7 y0 y1
  obtain ⟨y0, y1⟩ := plc x1
  go_wp2_with fail
  refine (Cp.out _).mono ?_
  rintro e w2 ⟨rfl, hb3⟩
  have hb4 : Below w.heap.size w w2 := hb2.trans (hb3.mono hb2.size)
  have x2 := x1.below x1.lt hb3
  have h3 := h2.below h2.lt hb3
  clear y0 y1 hb1 hb0 h1 x0
  obtain ⟨y0, y1⟩ := plc x2
  have c5 := (tabc h3).2.2.2.2.2.1
  have k1 := hlk.out _ hb4.drew
  go_wp2_with fail
  refine (Cw.out _).mono ?_
  rintro e w3 ⟨rfl, rfl⟩
  go_upto_region 3 with fail
  go_cut [40] (fun hv wx => hv = .bool false ∧ Below w2.heap.size w2 wx)
  case first =>
    go_region_with (first | (go_at_call 28; (with_reducible refine (Ch.out _ hb4.drew).mono ?_); rintro e w4 ⟨rfl, hb5⟩))
    all_goals (go_wp2_with fail; go_meet; exact ⟨rfl, Wd.of_drew hb5⟩)
  case rest =>
  obtain ⟨rfl, hb5⟩ := hcut
  have hb6 : Below w.heap.size w wc := hb4.trans (hb5.mono hb4.size)
  have x3 : Wd.Bx wc w.heap.size 42 #[.int .i64 seg, .int .i64 doc] := x2.below x2.lt hb5
  have h4 : Wd.Bx wc t 78 #[.slice A n c, .int .i64 s.key, .int .i64 s.cmp, .int .i64 s.del, .int .i64 s.sort, .map (some bd), .map (some bw), .map (some bs)] := h3.below h3.lt hb5
  clear y0 y1 c5 hb5 k1
  have Ck := keyed_any h4
  rw [hk2.out] at Ck
  have Ck := Lib.hid Ck
  go_wp2_with fail
  refine (Ck.out).mono ?_
  rintro e wx ⟨rfl, e5⟩
  obtain ⟨w4, hw4⟩ : ∃ w4, w4 = wc := ⟨_, rfl⟩
  rw [e5, ← hw4]
  rw [← hw4] at hb6 x3 h4
  clear e5 hw4
  have hg4 : g1 < w4.heap.size := Nat.lt_of_lt_of_le hg1 hb6.size
  obtain ⟨y0, y1⟩ := plc x3
  have c1 := (tabc h4).2.1
  rw [hp0.out] at c1
  have hcA : (w4.cell? ⟨t, 1, none⟩ = some (.int .i64 (p : Int)) ∧ w4.cell? ⟨w.heap.size, 0, none⟩ = some (.int .i64 seg) ∧ w4.cell? ⟨w.heap.size, 1, none⟩ = some (.int .i64 doc)) ∧ w4.cell? ⟨g1, f1 + p * 4, none⟩ = some (.int .i64 v.kind) ∧ w4.cell? ⟨g1, f1 + p * 4 + 1, none⟩ = some (.int .i64 v.i) ∧ w4.cell? ⟨g1, f1 + p * 4 + 2, none⟩ = some (.string v.s) ∧ w4.cell? ⟨g1, f1 + p * 4 + 3, none⟩ = some (.bool v.b) :=
    ⟨⟨c1, y0, y1⟩, (hb6.cell (p := ⟨g1, f1 + p * 4, none⟩) hg1).trans d0, (hb6.cell (p := ⟨g1, f1 + p * 4 + 1, none⟩) hg1).trans d1, (hb6.cell (p := ⟨g1, f1 + p * 4 + 2, none⟩) hg1).trans d2, (hb6.cell (p := ⟨g1, f1 + p * 4 + 3, none⟩) hg1).trans d3⟩
  obtain ⟨⟨q1, q2, q3⟩, q4, q5, q6, q7⟩ := id hcA
  clear d0 d1 d2 d3
  go_upto_region 6 with fail
  go_cut [9] (fun ev wx => ev = .int .i64 5 ∧ Wd.Mv F w wx ∧ Lay wx t A n c s bd bw bs nd nw ns fd fw (fun v => (W v).map Rw.seg) W Dc N F)
  case first =>
    go_region_held3 (fun w' => (w'.cell? ⟨t, 1, none⟩ = some (.int .i64 (p : Int)) ∧ w'.cell? ⟨w.heap.size, 0, none⟩ = some (.int .i64 seg) ∧ w'.cell? ⟨w.heap.size, 1, none⟩ = some (.int .i64 doc)) ∧ w'.cell? ⟨g1, f1 + p * 4, none⟩ = some (.int .i64 v.kind) ∧ w'.cell? ⟨g1, f1 + p * 4 + 1, none⟩ = some (.int .i64 v.i) ∧ w'.cell? ⟨g1, f1 + p * 4 + 2, none⟩ = some (.string v.s) ∧ w'.cell? ⟨g1, f1 + p * 4 + 3, none⟩ = some (.bool v.b))
      (first | exact hcC | exact hcB | exact hcA | go_keep)
      (first | (go_at_call 48; (with_reducible refine (Cwin.out _ hb6.drew).mono ?_); rintro e w5 ⟨rfl, hb7⟩; have hb8 : Below w.heap.size w w5 := hb6.trans ((Wd.of_drew hb7).mono hb6.size); have hcB : (w5.cell? ⟨t, 1, none⟩ = some (.int .i64 (p : Int)) ∧ w5.cell? ⟨w.heap.size, 0, none⟩ = some (.int .i64 seg) ∧ w5.cell? ⟨w.heap.size, 1, none⟩ = some (.int .i64 doc)) ∧ w5.cell? ⟨g1, f1 + p * 4, none⟩ = some (.int .i64 v.kind) ∧ w5.cell? ⟨g1, f1 + p * 4 + 1, none⟩ = some (.int .i64 v.i) ∧ w5.cell? ⟨g1, f1 + p * 4 + 2, none⟩ = some (.string v.s) ∧ w5.cell? ⟨g1, f1 + p * 4 + 3, none⟩ = some (.bool v.b) := ⟨⟨(hb7.cell (p := ⟨t, 1, none⟩) h4.lt).trans q1, (hb7.cell (p := ⟨w.heap.size, 0, none⟩) x3.lt).trans q2, (hb7.cell (p := ⟨w.heap.size, 1, none⟩) x3.lt).trans q3⟩, (hb7.cell (p := ⟨g1, f1 + p * 4, none⟩) hg4).trans q4, (hb7.cell (p := ⟨g1, f1 + p * 4 + 1, none⟩) hg4).trans q5, (hb7.cell (p := ⟨g1, f1 + p * 4 + 2, none⟩) hg4).trans q6, (hb7.cell (p := ⟨g1, f1 + p * 4 + 3, none⟩) hg4).trans q7⟩) | (go_at_call 47; (with_reducible refine (Ccm.out _ hb8).mono ?_); rintro e w6 ⟨rfl, hres⟩; replace hres := Lib.hid hres; have hcC := cells_keep (h.out.below hb8) hres.out.1 hres.out.2.box (fun q => by have := h.out.lt q; omega) (Nat.lt_of_lt_of_le x3.lt (Wd.of_drew hb7).size) (Nat.lt_of_lt_of_le hg4 (Wd.of_drew hb7).size) hp0.out hcB))
    all_goals (
      go_wp2_with fail
      go_meet
      exact ⟨rfl, (Wd.Mv.of_below hb8).then hres.out.1, hres.out.2⟩)
  case rest =>
  obtain ⟨rfl, hres⟩ := hcut
  go_wp2_with fail
  go_ret
  exact ⟨rfl, hres⟩
end
end Up
end Go.Proofs.YtpappcmgnnmbeaaDoor
namespace Go.Proofs.YtpappcmgnnmbeaaDoor
set_option maxRecDepth 20000
open Go.RowKit Go.Maps
namespace Up
open Va (Vl)
open Sc (Sch FitS MayS tr tr_yes tr_no)
section
variable {w w' : World} {t : Nat} {A : Option Addr} {n c : Nat} {s : Sch} {bd bw bs nd nw ns : Nat} {fd fw : Int → Option Value} {sg : Vl → Option Int} {W : Vl → Option Rw} {Dc : Int → List Int} {N : Nat} {F : Nat → Prop}
set_option maxHeartbeats 4000000 in
theorem add_win {R : Option Addr} {m d : Nat} {vs : List Vl} (h : Lay w t A n c s bd bw bs nd nw ns fd fw (fun v => (W v).map Rw.seg) W Dc N F) (hn : n ≤ 8) (hV : Wd.Vs w R m d vs) {seg doc off : Int} (hF : FitS s vs) (hP : PlaceOk seg doc off) (hN : N + 8 < maxLen) (hO : SegOk W) (hhas : decide (doc ∈ Dc seg) = false) (hk : s.key ≠ -1) {v : Vl} (hv : v = vs.getD s.key.toNat default) {r : Rw} (hr : r = rw_ s vs seg doc off) (hT : ¬ TieW W v r) {ns2 : Nat} (hns : ns2 = if (W v).isSome then ns else ns + 1) :
    Calls Tryd.prog 25 #[.pointer (some ⟨t, 0, none⟩), .slice R m d, .agg #[.int .i64 seg, .int .i64 doc], .int .i64 off] w fun e w' => e = .returned (.int .i64 0) ∧ Wd.Mv F w w' ∧ ∃ nd' nw' fd' fw' F', Lay w' t A n c s bd bw bs nd' nw' ns2 fd' fw' (fun x => (comeW W v r x).map Rw.seg) (comeW W v r) (fun x => if x = seg then Bs.withL (Dc seg) doc else Dc x) (N + 4) F' ∧ ∀ x, F' x → Wd.Gr F w w' x := by
  have hws : (Lit.int .i64 seg).wf = true := wf_seg (by have := hP.1; have := hP.2.1; omega)
  have hwd : (Lit.int .i64 doc).wf = true := wf_seg (by have := hP.2.2.1; have := hP.2.2.2.1; omega)
  have hb0 := (Below.refl w.heap.size w).alloc (Nat.le_refl _) (.cells #[.int .i64 seg, .int .i64 doc] 42)
  have x0 := Wd.Bx.new w 42 #[.int .i64 seg, .int .i64 doc]
  have h1 := h.box.below h.box.lt hb0
  have Cf := Sx.Fits_any A n c s R m d vs _ (h.sch.below hb0) (hV.below hb0) (by omega)
  have Cp := mayPlace_any seg doc
  have Cw := within_any off 0 1099511627776
  have hp := (place_ok seg doc off).1 hP
  rw [tr_yes hF] at Cf
  rw [hp.1] at Cp
  rw [hp.2] at Cw
  obtain ⟨SA, sn, sc, hSv, hSt⟩ := h.setv seg
  have Ch := Lib.hid fun (wx : World) (hx : Below w.heap.size w wx) => (show Calls Tryd.prog 28 #[.agg #[.slice SA sn sc], .int .i64 doc] wx fun e w' => e = .returned (.bool false) ∧ Below wx.heap.size wx w' by
    have := Bw.has_any SA sn sc (Dc seg) doc wx (st_below hSt hx) (i64_of hwd)
    rwa [hhas] at this)
  have hlk := Lib.hid fun (wx : World) (hx : Below w.heap.size w wx) => (show (Instr.lookup 74 (.map (some bd)) (.int .i64 seg) false).run Tryd.prog wx = .ok (.agg #[.slice SA sn sc]) wx by
    have := (h.below hx).docs.look Tryd.underlying74 (zero_set _) (x := seg) hws
    rwa [hSv] at this)

  have Cf := Lib.hid Cf
  have Cp := Lib.hid Cp
  have Cw := Lib.hid Cw
  have hP := Lib.hid hP
  have hF := Lib.hid hF
  have h := Lib.hid h
  have hV := Lib.hid hV
  have hws := Lib.hid hws
  have hSt := Lib.hid hSt
  have hk2 := Lib.hid (show kdS s = true from decide_eq_true hk)
  obtain ⟨p, hp0, hpl⟩ : ∃ p : Nat, s.key = (p : Int) ∧ p < vs.length := by
    obtain ⟨-, -, -, -, -, -, h7⟩ := hF.out.1
    rcases h7 with ⟨e, _⟩ | ⟨_, h8, _⟩
    · exact absurd e hk
    · obtain ⟨c, hc, _⟩ := h8.2
      have h9 := (List.getElem?_eq_some_iff.1 hc).1
      rw [← Sc.fits_len hF.out.2] at h9
      have := h8.1
      exact ⟨s.key.toNat, by omega, h9⟩
  have Cwin := Lib.hid fun (wx : World) (hx : Below w.heap.size w wx) => (show Calls Tryd.prog 48 #[.pointer (some ⟨t, 0, none⟩), .slice R m d, .agg #[.int .i64 seg, .int .i64 doc], .int .i64 off] wx fun e w' => e = .returned (.agg #[.int .i64 r.seg, .int .i64 r.doc, .int .i64 r.cmp, .int .i64 r.off, .bool r.gone]) ∧ Below wx.heap.size wx w' by
    rw [hr]
    exact winner_lay (h.out.box.below h.out.box.lt hx) (hV.out.below hx) hF.out hk seg doc off)
  have hvc := hV.out.cells (j := p) hpl (o := v) (by rw [hv, hp0, Int.toNat_natCast])
  obtain ⟨g1, f1, hR, hg1, d0, d1, d2, d3, hv1⟩ := hvc
  have hsv : v.s.size ≤ maxLen := by
    have h1 := ((Sc.fits_get _ _).1 hF.out.2).2 p (by rw [← Sc.fits_len hF.out.2]; exact hpl)
    have h2 : vs.getD p ⟨0, 0, ⟨#[]⟩, false⟩ = v := by
      rw [hv, hp0, Int.toNat_natCast]
      rfl
    rw [h2] at h1
    have h3 := h1.1.1
    unfold maxLen
    rcases h3 with q | q | q | q
    · rw [q.2.2.1]; exact Nat.zero_le _
    · rw [q.2.1]; exact Nat.zero_le _
    · have := q.2.2.1; omega
    · rw [q.2.2]; exact Nat.zero_le _
  have hrs : 0 ≤ r.seg ∧ r.seg ≤ 1073741824 := by
    rw [hr, (rw_seg s vs seg doc off).1]
    exact ⟨hP.out.1, hP.out.2.1⟩
  have Ccm := Lib.hid fun (wx : World) (hx : Below w.heap.size w wx) => (show Calls Tryd.prog 47 #[.pointer (some ⟨t, 0, none⟩), .agg #[.int .i64 v.kind, .int .i64 v.i, .string v.s, .bool v.b], .agg #[.int .i64 r.seg, .int .i64 r.doc, .int .i64 r.cmp, .int .i64 r.off, .bool r.gone]] wx fun e w' => e = .returned (.int .i64 0) ∧ Wd.Mv F wx w' ∧ Come wx w' t A n c s bd bw bs nd ns fd W Dc N F v r from
    (compete_lay (h.out.below hx) hO ⟨hv1, hsv⟩ hrs (by omega)).mono fun e w' ⟨h1, h2⟩ => by
      rcases h2 with ⟨h3, _⟩ | ⟨_, h3, h4⟩
      · exact absurd h3 hT
      · exact ⟨h3, h1, h4⟩)
  have hpm : p < m := by have := hV.out.len; omega
  have hcap := hV.out.cap
  replace hp0 := Lib.hid hp0
  subst hR
  replace hns := Lib.hid hns
  clear hv hr hk hT hpl hsv hv1 hrs
  clear hp hwd hSv
  obtain ⟨c0, c1, c2, c3, c4, c5, c6, c7⟩ := tabc h1
  obtain ⟨y0, y1⟩ := plc x0
  have hsz : (w.alloc (.cells #[.int .i64 seg, .int .i64 doc] 42)).heap.size = w.heap.size + 1 := by simp
  go_enter Tryd.func25, Tryd.ntmps25
  go_wp2_with fail
  generalize hwa : w.alloc (.cells #[.int .i64 seg, .int .i64 doc] 42) = wa at *
  clear hwa
  have hlt : w.heap.size < wa.heap.size := by omega
  clear hsz
  refine (Cf.out).mono ?_
  rintro e w1 ⟨rfl, hb1⟩
  have hb2 : Below w.heap.size w w1 := hb0.trans (hb1.mono hb0.size)
  have x1 := x0.below hlt hb1
  have h2 := h1.below h1.lt hb1
  clear c0 c1 c2 c3 c4 c5 c6 c7 y0 y1
  obtain ⟨y0, y1⟩ := plc x1
  go_wp2_with fail
  refine (Cp.out _).mono ?_
  rintro e w2 ⟨rfl, hb3⟩
  have hb4 : Below w.heap.size w w2 := hb2.trans (hb3.mono hb2.size)
  have x2 := x1.below x1.lt hb3
  have h3 := h2.below h2.lt hb3
  clear y0 y1 hb1 hb0 h1 x0
  obtain ⟨y0, y1⟩ := plc x2
  have c5 := (tabc h3).2.2.2.2.2.1
  have k1 := hlk.out _ hb4.drew
  go_wp2_with fail
  refine (Cw.out _).mono ?_
  rintro e w3 ⟨rfl, rfl⟩
  go_upto_region 3 with fail
  go_cut [40] (fun hv wx => hv = .bool false ∧ Below w2.heap.size w2 wx)
  case first =>
    go_region_with (first | (go_at_call 28; (with_reducible refine (Ch.out _ hb4.drew).mono ?_); rintro e w4 ⟨rfl, hb5⟩))
    all_goals (go_wp2_with fail; go_meet; exact ⟨rfl, Wd.of_drew hb5⟩)
  case rest =>
  obtain ⟨rfl, hb5⟩ := hcut
  have hb6 : Below w.heap.size w wc := hb4.trans (hb5.mono hb4.size)
  have x3 : Wd.Bx wc w.heap.size 42 #[.int .i64 seg, .int .i64 doc] := x2.below x2.lt hb5
  have h4 : Wd.Bx wc t 78 #[.slice A n c, .int .i64 s.key, .int .i64 s.cmp, .int .i64 s.del, .int .i64 s.sort, .map (some bd), .map (some bw), .map (some bs)] := h3.below h3.lt hb5
  clear y0 y1 c5 hb5 k1
  have Ck := keyed_any h4
  rw [hk2.out] at Ck
  have Ck := Lib.hid Ck
  go_wp2_with fail
  refine (Ck.out).mono ?_
  rintro e wx ⟨rfl, e5⟩
  obtain ⟨w4, hw4⟩ : ∃ w4, w4 = wc := ⟨_, rfl⟩
  rw [e5, ← hw4]
  rw [← hw4] at hb6 x3 h4
  clear e5 hw4
  have hg4 : g1 < w4.heap.size := Nat.lt_of_lt_of_le hg1 hb6.size
  obtain ⟨y0, y1⟩ := plc x3
  have c1 := (tabc h4).2.1
  rw [hp0.out] at c1
  have hcA : (w4.cell? ⟨t, 1, none⟩ = some (.int .i64 (p : Int)) ∧ w4.cell? ⟨w.heap.size, 0, none⟩ = some (.int .i64 seg) ∧ w4.cell? ⟨w.heap.size, 1, none⟩ = some (.int .i64 doc)) ∧ w4.cell? ⟨g1, f1 + p * 4, none⟩ = some (.int .i64 v.kind) ∧ w4.cell? ⟨g1, f1 + p * 4 + 1, none⟩ = some (.int .i64 v.i) ∧ w4.cell? ⟨g1, f1 + p * 4 + 2, none⟩ = some (.string v.s) ∧ w4.cell? ⟨g1, f1 + p * 4 + 3, none⟩ = some (.bool v.b) :=
    ⟨⟨c1, y0, y1⟩, (hb6.cell (p := ⟨g1, f1 + p * 4, none⟩) hg1).trans d0, (hb6.cell (p := ⟨g1, f1 + p * 4 + 1, none⟩) hg1).trans d1, (hb6.cell (p := ⟨g1, f1 + p * 4 + 2, none⟩) hg1).trans d2, (hb6.cell (p := ⟨g1, f1 + p * 4 + 3, none⟩) hg1).trans d3⟩
  obtain ⟨⟨q1, q2, q3⟩, q4, q5, q6, q7⟩ := id hcA
  clear d0 d1 d2 d3
  go_upto_region 6 with fail
  go_cut [9] (fun ev wx => ev = .int .i64 0 ∧ Wd.Bx wx w.heap.size 42 #[.int .i64 seg, .int .i64 doc] ∧ Wd.Mv F w wx ∧ Come w wx t A n c s bd bw bs nd ns fd W Dc N F v r)
  case first =>
    go_region_held3 (fun w' => (w'.cell? ⟨t, 1, none⟩ = some (.int .i64 (p : Int)) ∧ w'.cell? ⟨w.heap.size, 0, none⟩ = some (.int .i64 seg) ∧ w'.cell? ⟨w.heap.size, 1, none⟩ = some (.int .i64 doc)) ∧ w'.cell? ⟨g1, f1 + p * 4, none⟩ = some (.int .i64 v.kind) ∧ w'.cell? ⟨g1, f1 + p * 4 + 1, none⟩ = some (.int .i64 v.i) ∧ w'.cell? ⟨g1, f1 + p * 4 + 2, none⟩ = some (.string v.s) ∧ w'.cell? ⟨g1, f1 + p * 4 + 3, none⟩ = some (.bool v.b))
      (first | exact hcC | exact hcB | exact hcA | go_keep)
      (first | (go_at_call 48; (with_reducible refine (Cwin.out _ hb6.drew).mono ?_); rintro e w5 ⟨rfl, hb7⟩; have hb8 : Below w.heap.size w w5 := hb6.trans ((Wd.of_drew hb7).mono hb6.size); have hcB : (w5.cell? ⟨t, 1, none⟩ = some (.int .i64 (p : Int)) ∧ w5.cell? ⟨w.heap.size, 0, none⟩ = some (.int .i64 seg) ∧ w5.cell? ⟨w.heap.size, 1, none⟩ = some (.int .i64 doc)) ∧ w5.cell? ⟨g1, f1 + p * 4, none⟩ = some (.int .i64 v.kind) ∧ w5.cell? ⟨g1, f1 + p * 4 + 1, none⟩ = some (.int .i64 v.i) ∧ w5.cell? ⟨g1, f1 + p * 4 + 2, none⟩ = some (.string v.s) ∧ w5.cell? ⟨g1, f1 + p * 4 + 3, none⟩ = some (.bool v.b) := ⟨⟨(hb7.cell (p := ⟨t, 1, none⟩) h4.lt).trans q1, (hb7.cell (p := ⟨w.heap.size, 0, none⟩) x3.lt).trans q2, (hb7.cell (p := ⟨w.heap.size, 1, none⟩) x3.lt).trans q3⟩, (hb7.cell (p := ⟨g1, f1 + p * 4, none⟩) hg4).trans q4, (hb7.cell (p := ⟨g1, f1 + p * 4 + 1, none⟩) hg4).trans q5, (hb7.cell (p := ⟨g1, f1 + p * 4 + 2, none⟩) hg4).trans q6, (hb7.cell (p := ⟨g1, f1 + p * 4 + 3, none⟩) hg4).trans q7⟩) | (go_at_call 47; (with_reducible refine (Ccm.out _ hb8).mono ?_); rintro e w6 ⟨rfl, hres⟩; replace hres := Lib.hid hres; have hcC := cells_keep (h.out.below hb8) hres.out.1 (by obtain ⟨_, _, _, l3, _⟩ := hres.out.2; exact l3.box) (fun q => by have := h.out.lt q; omega) (Nat.lt_of_lt_of_le x3.lt (Wd.of_drew hb7).size) (Nat.lt_of_lt_of_le hg4 (Wd.of_drew hb7).size) hp0.out hcB))
    all_goals (
      go_wp2_with fail
      go_meet
      have hlF : ∀ x, F x → x < w.heap.size := fun x hx => h.out.lt hx
      have hcm := hres.out.2
      refine ⟨rfl, Wd.Bx.at_ (x3.below x3.lt (Wd.of_drew hb7)) (hres.out.1.keep _ (Nat.lt_of_lt_of_le x3.lt (Wd.of_drew hb7).size) (fun q => by have := hlF _ q; omega)), (Wd.Mv.of_below hb8).then hres.out.1, ?_⟩
      obtain ⟨n3, f3, F3, l3, g3⟩ := hcm
      exact ⟨n3, f3, F3, l3, fun x hx => by
        rcases g3 x hx with q | q
        · exact .inl q
        · have := hb8.size
          exact .inr ⟨by omega, q.2⟩⟩)
  case rest =>
  obtain ⟨rfl, hres⟩ := hcut
  obtain ⟨x3, mvc, nw3, fw3, F3, hL, hG⟩ := hres
  rw [← hns.out] at hL
  have h4 := hL.box
  have hL := Lib.hid hL
  have mvc := Lib.hid mvc
  have hG := Lib.hid hG
  have hbd : bd < w.heap.size := h.out.docs.lt
  clear q1 q2 q3 q4 q5 q6 q7 hcA y0 y1 c1 hb6 hg4
  obtain ⟨SB, sm, sd, hSv2, hSt2⟩ := hL.out.setv seg
  have k2 : (Instr.lookup 74 (.map (some bd)) (.int .i64 seg) false).run Tryd.prog wc.drew = .ok (.agg #[.slice SB sm sd]) wc.drew := by
    have := (hL.out.below (Below.refl _ _).drew).docs.look Tryd.underlying74 (zero_set _) (x := seg) hws.out
    rwa [hSv2] at this
  obtain ⟨y0, y1⟩ := plc x3
  have c5 := (tabc h4).2.2.2.2.2.1
  have hcA : wc.cell? ⟨t, 5, none⟩ = some (.map (some bd)) ∧ wc.cell? ⟨w.heap.size, 0, none⟩ = some (.int .i64 seg) ∧ wc.cell? ⟨w.heap.size, 1, none⟩ = some (.int .i64 doc) := ⟨c5, y0, y1⟩
  have Cv := Lib.hid fun (wx : World) (hx : Below wc.heap.size wc wx) => Bw.with_any SB sm sd (Dc seg) doc wx (st_below hSt2 hx)
  clear hSv2 hSt2
  go_wp2_with fail
  go_region_held3 (fun w' => w'.cell? ⟨t, 5, none⟩ = some (.map (some bd)) ∧ w'.cell? ⟨w.heap.size, 0, none⟩ = some (.int .i64 seg) ∧ w'.cell? ⟨w.heap.size, 1, none⟩ = some (.int .i64 doc))
    (first | exact hcC | exact hcB | exact hcA | go_keep)
    (first | (go_at_call 49; (with_reducible refine (Cv.out _ ((Below.refl _ _).drew)).mono ?_); rintro e w5 ⟨A2, n2, c2, rfl, hst2, hb7⟩; have hb8 : Below wc.heap.size wc w5 := Wd.of_drew hb7; have hcB : w5.cell? ⟨t, 5, none⟩ = some (.map (some bd)) ∧ w5.cell? ⟨w.heap.size, 0, none⟩ = some (.int .i64 seg) ∧ w5.cell? ⟨w.heap.size, 1, none⟩ = some (.int .i64 doc) := ⟨(hb7.cell (p := ⟨t, 5, none⟩) h4.lt).trans c5, (hb7.cell (p := ⟨w.heap.size, 0, none⟩) x3.lt).trans y0, (hb7.cell (p := ⟨w.heap.size, 1, none⟩) x3.lt).trans y1⟩; obtain ⟨w6, nd', fd', e1, e2, e3⟩ := Lay.docset (hL.out.below hb8) hws.out hst2 (by omega); have hcC : w6.cell? ⟨t, 5, none⟩ = some (.map (some bd)) ∧ w6.cell? ⟨w.heap.size, 0, none⟩ = some (.int .i64 seg) ∧ w6.cell? ⟨w.heap.size, 1, none⟩ = some (.int .i64 doc) := ⟨(tabc e3.box).2.2.2.2.2.1, plc (Wd.Bx.grown (Wd.Bx.below (w := wc.drew) x3 x3.lt hb7) e2 (fun q => by injection q with q; omega))⟩; have HR := Lib.hid (And.intro hb8 (And.intro e2 e3)); clear e2 e3))
  all_goals (
    go_wp2_with fail
    go_ret
    have mv6 : Wd.Mv F3 wc w6 := (Wd.Mv.of_below HR.out.1).then (Wd.Mv.of_grown HR.out.2.1 (fun g e => by cases e; exact hL.out.ft.2.1))
    refine ⟨rfl, mvc.out.trans (mv6.mono hG.out), nd', nw3, fd', fw3, F3, HR.out.2.2, fun x hx => ?_⟩
    rcases hG.out x hx with q | q
    · exact .inl q
    · have := mv6.size
      exact .inr ⟨q.1, by omega⟩)
end
end Up
end Go.Proofs.YtpappcmgnnmbeaaDoor
