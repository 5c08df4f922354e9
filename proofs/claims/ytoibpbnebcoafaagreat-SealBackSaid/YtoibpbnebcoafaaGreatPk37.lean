/- Package seal: Build. What slices.Sorted and slices.Sort of integers are at this program: the numbers of what the library speaks of, as its contracts ask them. -/
import Derived.Deep.RegionLaw
import Derived.Deep.DeepCutAuto
import Derived.Lib.Hide
import Derived.Shelf.SlIterI.Sorted
import Derived.Shelf.SortM.Plain
import Derived.Shelf.SortM.SortNone
import Derived.Ground.GgzProg
import Derived.Ground.SlgmProg
import Derived.Test.YtoibpbnebcoafaaGreatPk36
import Derived.Test.YtoibpbnebcoafaaGreatProg
namespace Go.Proofs.YtoibpbnebcoafaaGreat
set_option maxRecDepth 20000
open Go.RowKit
namespace Se
open Va (Vl May null)
open Sc (Sch tr tr_yes tr_no tr_iff tr_congr)
open Sx (Sb five)
open Ssm (ns)
open Wd (Cr)
open Co (build)
/-- A segment, the order, and an error's number. -/
def OutBd (w : World) (r : Seg × List Nat × Int) (e : Ending) (w' : World) : Prop :=
  ∃ OA on oc CA cn cc os QA qn qc, e = .returned (.tuple #[.agg #[.int .i64 r.1.part, .int .i64 r.1.id, .int .i64 r.1.st, .int .i64 r.1.en, .slice OA on oc, .slice CA cn cc], .slice QA qn qc, .int .i64 r.2.2]) ∧
    Sg w' OA on oc CA cn cc os r.1 ∧ Wd.Sl w' .i64 QA qn qc (ns r.2.1) ∧ Below w.heap.size w w'
theorem box6 {w : World} {p : Nat} {a b c d e f x0 x1 x2 x3 x4 x5 : Value} (h : Wd.Bx w p 28 #[a, b, c, d, e, f]) :
    Wd.Bx ((((((w.setCell ⟨p, 0, none⟩ x0).setCell ⟨p, 1, none⟩ x1).setCell ⟨p, 2, none⟩ x2).setCell ⟨p, 3, none⟩ x3).setCell ⟨p, 4, none⟩ x4).setCell ⟨p, 5, none⟩ x5) p 28 #[x0, x1, x2, x3, x4, x5] := by
  unfold Wd.Bx at *
  have h1 := heap_setCell_same w p 0 _ 28 x0 h
  have h2 := heap_setCell_same _ p 1 _ 28 x1 h1
  have h3 := heap_setCell_same _ p 2 _ 28 x2 h2
  have h4 := heap_setCell_same _ p 3 _ 28 x3 h3
  have h5 := heap_setCell_same _ p 4 _ 28 x4 h4
  have h6 := heap_setCell_same _ p 5 _ 28 x5 h5
  rw [h6]
  simp
theorem below6 {w : World} {p B : Nat} {w0 : World} (h : Below B w0 w) (hp : B ≤ p) (x0 x1 x2 x3 x4 x5 : Value) : Below B w0 ((((((w.setCell ⟨p, 0, none⟩ x0).setCell ⟨p, 1, none⟩ x1).setCell ⟨p, 2, none⟩ x2).setCell ⟨p, 3, none⟩ x3).setCell ⟨p, 4, none⟩ x4).setCell ⟨p, 5, none⟩ x5) :=
  (((((h.setCell (p := ⟨p, 0, none⟩) hp _).setCell (p := ⟨p, 1, none⟩) hp _).setCell (p := ⟨p, 2, none⟩) hp _).setCell (p := ⟨p, 3, none⟩) hp _).setCell (p := ⟨p, 4, none⟩) hp _).setCell (p := ⟨p, 5, none⟩) hp _
theorem mv6 (w : World) (p : Nat) (x0 x1 x2 x3 x4 x5 : Value) : Wd.Mv (fun x => x = p) w ((((((w.setCell ⟨p, 0, none⟩ x0).setCell ⟨p, 1, none⟩ x1).setCell ⟨p, 2, none⟩ x2).setCell ⟨p, 3, none⟩ x3).setCell ⟨p, 4, none⟩ x4).setCell ⟨p, 5, none⟩ x5) :=
  ((((((Wd.Mv.refl (fun x => x = p) w).set (G := fun x => x = p) (a := ⟨p, 0, none⟩) rfl _).set (a := ⟨p, 1, none⟩) rfl _).set (a := ⟨p, 2, none⟩) rfl _).set (a := ⟨p, 3, none⟩) rfl _).set (a := ⟨p, 4, none⟩) rfl _).set (a := ⟨p, 5, none⟩) rfl _
/-- The three boxes of Build. -/
structure Bs (w w' : World) (A : Option Addr) (n c : Nat) (s : Sch) (OA : Option Addr) (on oc : Nat) (CA : Option Addr) (cn cc : Nat) (x : Seg) : Prop where
  s : Sb w' w.heap.size A n c s.key s.cmp s.del s.sort
  x : Gb w' (w.heap.size + 1) x.part x.id x.st x.en OA on oc CA cn cc
  r : Gb w' (w.heap.size + 1 + 1) 0 0 0 0 none 0 0 none 0 0
  b : Below w.heap.size w w'
  z : w.heap.size + 1 + 1 < w'.heap.size
theorem Bs.below {w w1 w' : World} {A : Option Addr} {n c : Nat} {s : Sch} {OA : Option Addr} {on oc : Nat} {CA : Option Addr} {cn cc : Nat} {x : Seg} (h : Bs w w1 A n c s OA on oc CA cn cc x) (hb : Below w1.heap.size w1 w') : Bs w w' A n c s OA on oc CA cn cc x :=
  ⟨h.s.below h.s.lt hb, h.x.below h.x.lt hb, h.r.below h.r.lt hb, h.b.trans (hb.mono h.b.size), Nat.lt_of_lt_of_le h.z hb.size⟩
/-- Between two offsets: k of them stand in the box of the segment at p. -/
structure BI (w3 w : World) (p n kc : Nat) (x : Seg) (KA : Option Addr) (T : List Int) (k : Nat) : Prop where
  ex : ∃ V vc, Wd.Bx w p 28 #[.int .i64 x.part, .int .i64 x.id, .int .i64 x.st, .int .i64 x.en, .slice V k vc, .slice KA n kc] ∧ w.ownsRow (p + 1) 3 1 (.slice V k vc) (T.take k).length ((T.take k).map (Value.int .i64))
  bel : Below w3.heap.size w3 w
set_option maxHeartbeats 16000000 in
theorem build_any (A : Option Addr) (n c : Nat) (s : Sch) (OA : Option Addr) (on oc : Nat) (CA : Option Addr) (cn cc : Nat) (xs : List Cr) (x : Seg) (R : Option Addr) (m d : Nat) (l : List (List Vl)) (Q : Option Addr) (q qc : Nat) (offs : List Int) (w : World)
    (hS : Wd.Cs w A n c s.cols) (hX : Sg w OA on oc CA cn cc xs x) (hL : Wd.Ls w R m d l) (hQ : Wd.Sl w .i64 Q q qc offs) (hf : Wd.Fits .i64 offs) (hn : n ≤ 1000000) (hm : m ≤ 1000000) :
    Calls Tryz.prog 13 #[.agg #[.slice A n c, .int .i64 s.key, .int .i64 s.cmp, .int .i64 s.del, .int .i64 s.sort], .agg #[.int .i64 x.part, .int .i64 x.id, .int .i64 x.st, .int .i64 x.en, .slice OA on oc, .slice CA cn cc], .slice R m d, .slice Q q qc] w (OutBd w (bld s x l offs)) := by
  obtain ⟨i0, hi, hz0, hz1, hz2⟩ := info_parts Dx.info_i
  obtain ⟨w1, hw1⟩ : ∃ w1, w1 = ((w.alloc (.cells #[.slice A n c, .int .i64 s.key, .int .i64 s.cmp, .int .i64 s.del, .int .i64 s.sort] 24)).alloc (.cells #[.int .i64 x.part, .int .i64 x.id, .int .i64 x.st, .int .i64 x.en, .slice OA on oc, .slice CA cn cc] 28)).alloc (.cells #[.int .i64 0, .int .i64 0, .int .i64 0, .int .i64 0, .slice none 0 0, .slice none 0 0] 28) := ⟨_, rfl⟩
  have hB1 : Bs w w1 A n c s OA on oc CA cn cc x := by
    have z1 : (w.alloc (.cells #[.slice A n c, .int .i64 s.key, .int .i64 s.cmp, .int .i64 s.del, .int .i64 s.sort] 24)).heap.size = w.heap.size + 1 := by simp
    have z2 : ((w.alloc (.cells #[.slice A n c, .int .i64 s.key, .int .i64 s.cmp, .int .i64 s.del, .int .i64 s.sort] 24)).alloc (.cells #[.int .i64 x.part, .int .i64 x.id, .int .i64 x.st, .int .i64 x.en, .slice OA on oc, .slice CA cn cc] 28)).heap.size = w.heap.size + 1 + 1 := by simp
    have g1 := Gb.new (w.alloc (.cells #[.slice A n c, .int .i64 s.key, .int .i64 s.cmp, .int .i64 s.del, .int .i64 s.sort] 24)) x.part x.id x.st x.en OA on oc CA cn cc
    have g2 := Gb.new ((w.alloc (.cells #[.slice A n c, .int .i64 s.key, .int .i64 s.cmp, .int .i64 s.del, .int .i64 s.sort] 24)).alloc (.cells #[.int .i64 x.part, .int .i64 x.id, .int .i64 x.st, .int .i64 x.en, .slice OA on oc, .slice CA cn cc] 28)) 0 0 0 0 none 0 0 none 0 0
    rw [z1] at g1
    rw [z2] at g2
    rw [hw1]
    exact ⟨((Wd.Bx.new w _ _).alloc _).alloc _, g1.alloc _, g2, (((Below.refl _ _).alloc (Nat.le_refl _) _).alloc (by simp) _).alloc (by simp; omega) _, by simp⟩
  have Hw1 := Lib.hid hw1
  have HB1 := Lib.hid hB1
  have HS := Lib.hid hS
  have HX := Lib.hid hX
  have HL := Lib.hid hL
  have HQ := Lib.hid hQ
  have Hm := Lib.hid hL.len
  have Hq := Lib.hid hQ.len
  have Ch := Lib.hid (head_any OA on oc CA cn cc x w1)
  obtain ⟨bb, hbb⟩ : ∃ bb, bb = !tr (Arg s x l offs) := ⟨_, rfl⟩
  have Hbb := Lib.hid hbb
  obtain ⟨r, hr⟩ : ∃ r, r = bld s x l offs := ⟨_, rfl⟩
  rw [← hr]
  have Hr := Lib.hid hr
  obtain ⟨c0, c1, c2, c3, c4⟩ := five hB1.s
  obtain ⟨d0, d1, d2, d3, d4, d5⟩ := hB1.x.six
  clear hw1 hB1 hS hX hL hQ hbb hr
  go_enter Tryz.func13, Tryz.ntmps13
  go_upto_region 1 with fail
  rw [← Hw1.out]
  go_cut [38] (fun bv wz => bv = .bool bb ∧ Hid (Bs w wz A n c s OA on oc CA cn cc x))
  case first =>
    by_cases hh : Head x
    case neg =>
      have t1 := Lib.hid (tr_no hh)
      have t2 := Lib.hid (show bb = true by rw [Hbb.out, tr_no fun z => hh z.2.1]; rfl)
      clear hh
      go_wp2_with fail
      refine Ch.out.mono ?_
      rintro e w2 ⟨rfl, hB2⟩
      rw [t1.out]
      have H2 := Lib.hid (HB1.out.below hB2)
      clear hB2 c0 c1 c2 c3 c4 d0 d1 d2 d3 d4 d5
      go_wp2_with fail
      go_meet
      exact ⟨by rw [t2.out], H2⟩
    have t1 := Lib.hid (tr_yes hh)
    by_cases hlen : m = q
    case neg =>
      have t2 := Lib.hid (show bb = true by rw [Hbb.out, tr_no fun z => hlen (by have := z.2.2.1; rw [Hm.out, Hq.out]; exact this.symm)]; rfl)
      have t3 : ((m : Int) != (q : Int)) = true := by simp; omega
      clear hh hlen
      go_wp2_with fail
      refine Ch.out.mono ?_
      rintro e w2 ⟨rfl, hB2⟩
      rw [t1.out]
      have H2 := Lib.hid (HB1.out.below hB2)
      clear hB2 c0 c1 c2 c3 c4 d0 d1 d2 d3 d4 d5
      go_wp2_with fail
      go_meet
      exact ⟨by rw [t2.out], H2⟩
    have t3 : ((m : Int) != (q : Int)) = false := by simp; omega
    have hst := hh.2.2.2.2.1
    have hst2 : x.st ≤ 1099511627776 := by have := hh.2.2.2.2.2; omega
    have hen := hh.2.2.2.2.2.2
    by_cases hri : Rise x.st x.en offs
    case neg =>
      have t2 := Lib.hid (show bb = true by rw [Hbb.out, tr_no fun z => hri z.2.2.2]; rfl)
      have t4 := Lib.hid (tr_no hri)
      clear hh hlen hri
      go_wp2_with fail
      refine Ch.out.mono ?_
      rintro e w2 ⟨rfl, hB2⟩
      rw [t1.out]
      have H2 := Lib.hid (HB1.out.below hB2)
      have C2 := Lib.hid (rise_any OA on oc CA cn cc x.part x.id x.st x.en Q q qc offs w2 (HQ.out.below H2.out.b) hst hst2 hen)
      obtain ⟨d0, d1, d2, d3, d4, d5⟩ := H2.out.x.six
      clear hB2 c0 c1 c2 c3 c4 Ch
      go_wp2_with fail
      refine C2.out.mono ?_
      rintro e w3 ⟨rfl, hB3⟩
      rw [t4.out]
      have H3 := Lib.hid (H2.out.below hB3)
      clear hB3 d0 d1 d2 d3 d4 d5 C2
      go_wp2_with fail
      go_meet
      exact ⟨by rw [t2.out], H3⟩
    have t4 := Lib.hid (tr_yes hri)
    have t2 := Lib.hid (show bb = !tr (Fit s l) by
      rw [Hbb.out]
      congr 1
      exact tr_congr ⟨fun z => z.1, fun z => ⟨z, hh, by rw [← Hq.out, ← Hm.out, hlen], hri⟩⟩)
    clear hh hlen hri
    go_wp2_with fail
    refine Ch.out.mono ?_
    rintro e w2 ⟨rfl, hB2⟩
    rw [t1.out]
    have H2 := Lib.hid (HB1.out.below hB2)
    have C2 := Lib.hid (rise_any OA on oc CA cn cc x.part x.id x.st x.en Q q qc offs w2 (HQ.out.below H2.out.b) hst hst2 hen)
    obtain ⟨d0, d1, d2, d3, d4, d5⟩ := H2.out.x.six
    clear hB2 c0 c1 c2 c3 c4 Ch
    go_wp2_with fail
    refine C2.out.mono ?_
    rintro e w3 ⟨rfl, hB3⟩
    rw [t4.out]
    have H3 := Lib.hid (H2.out.below hB3)
    have C3 := Lib.hid (fit_any A n c s R m d l w3 (HS.out.below H3.out.b) (HL.out.below H3.out.b) hn)
    obtain ⟨c0, c1, c2, c3, c4⟩ := five H3.out.s
    clear hB3 d0 d1 d2 d3 d4 d5 C2
    go_wp2_with fail
    refine C3.out.mono ?_
    rintro e w4 ⟨rfl, hB4⟩
    have H4 := Lib.hid (H3.out.below hB4)
    clear hB4 c0 c1 c2 c3 c4 C3
    go_wp2_with fail
    go_meet
    exact ⟨by rw [t2.out], H4⟩
  case rest =>
    obtain ⟨rfl, HB⟩ := hcut
    clear c0 c1 c2 c3 c4 d0 d1 d2 d3 d4 d5 Ch HB1
    cases bb
    case true =>
      have hr1 := Lib.hid (show r = (zero, [], 1) by rw [Hr.out]; exact bld_bad fun z => by have := Hbb.out; rw [tr_yes z] at this; cases this)
      obtain ⟨u0, u1, u2, u3, u4, u5⟩ := HB.out.r.six
      have f0 := HB.out.r.free 0
      have f1 := HB.out.r.free 1
      have f2 := HB.out.r.free 2
      have f3 := HB.out.r.free 3
      have f4 := HB.out.r.free 4
      have f5 := HB.out.r.free 5
      have K6 := Lib.hid (box6 (x0 := .int .i64 0) (x1 := .int .i64 0) (x2 := .int .i64 0) (x3 := .int .i64 0) (x4 := .slice none 0 0) (x5 := .slice none 0 0) HB.out.r)
      have B6 := Lib.hid (below6 HB.out.b (p := w.heap.size + 1 + 1) (by omega) (.int .i64 0) (.int .i64 0) (.int .i64 0) (.int .i64 0) (.slice none 0 0) (.slice none 0 0))
      go_wp2_with fail
      have g0 := K6.out.cell 0
      have g1 := K6.out.cell 1
      have g2 := K6.out.cell 2
      have g3 := K6.out.cell 3
      have g4 := K6.out.cell 4
      have g5 := K6.out.cell 5
      refine bodyPost_ret (v := .tuple #[.agg #[.int .i64 0, .int .i64 0, .int .i64 0, .int .i64 0, .slice none 0 0, .slice none 0 0], .slice none 0 0, .int .i64 1]) ?_ rfl (by rw [hr1.out]; exact ⟨none, 0, 0, none, 0, 0, [], none, 0, 0, rfl, Sg.none_ _, Wd.Sl.none_ _ _, B6.out⟩)
      rw [Vc.res_cell3 rfl]; go_simp
    case false =>
      have hA := Lib.hid (show Arg s x l offs from (tr_iff (p := Arg s x l offs)).1 (by have := Hbb.out; simpa using this))
      clear Hbb
      by_cases hlong : 4096 < m
      · have q1 : (4096 : Int) < (m : Int) := by omega
        have hr1 := Lib.hid (show r = (zero, [], 2) by rw [Hr.out]; exact bld_long hA.out (by rw [← Hm.out]; exact hlong))
        obtain ⟨u0, u1, u2, u3, u4, u5⟩ := HB.out.r.six
        have f0 := HB.out.r.free 0
        have f1 := HB.out.r.free 1
        have f2 := HB.out.r.free 2
        have f3 := HB.out.r.free 3
        have f4 := HB.out.r.free 4
        have f5 := HB.out.r.free 5
        have K6 := Lib.hid (box6 (x0 := .int .i64 0) (x1 := .int .i64 0) (x2 := .int .i64 0) (x3 := .int .i64 0) (x4 := .slice none 0 0) (x5 := .slice none 0 0) HB.out.r)
        have B6 := Lib.hid (below6 HB.out.b (p := w.heap.size + 1 + 1) (by omega) (.int .i64 0) (.int .i64 0) (.int .i64 0) (.int .i64 0) (.slice none 0 0) (.slice none 0 0))
        go_wp2_with fail
        have g0 := K6.out.cell 0
        have g1 := K6.out.cell 1
        have g2 := K6.out.cell 2
        have g3 := K6.out.cell 3
        have g4 := K6.out.cell 4
        have g5 := K6.out.cell 5
        refine bodyPost_ret (v := .tuple #[.agg #[.int .i64 0, .int .i64 0, .int .i64 0, .int .i64 0, .slice none 0 0, .slice none 0 0], .slice none 0 0, .int .i64 2]) ?_ rfl (by rw [hr1.out]; exact ⟨none, 0, 0, none, 0, 0, [], none, 0, 0, rfl, Sg.none_ _, Wd.Sl.none_ _ _, B6.out⟩)
        rw [Vc.res_cell3 rfl]; go_simp
      have q1 : ¬ (4096 : Int) < (m : Int) := by omega
      have hm4 : m ≤ 4096 := by omega
      have hr1 := Lib.hid (show r = (sealed s x l offs, arr s l, 0) by rw [Hr.out]; exact bld_ok hA.out (by rw [← Hm.out]; exact hm4))
      have hsrt := Lib.hid (show ∀ r ∈ l, Srt s r from fun r hr => srt_of (hA.out.1.2 r hr))
      obtain ⟨c0, c1, c2, c3, c4⟩ := five HB.out.s
      have Ca := Lib.hid (arrange_any A n c s R m d l wc (HL.out.below HB.out.b) hsrt.out hm)
      clear hlong Hr
      go_wp2_with fail
      refine Ca.out.mono ?_
      rintro e w2 ⟨QA, qn, qc2, rfl, hS2, hB2, hN2⟩
      have H2 := Lib.hid (HB.out.below hB2)
      have hqn : qn = m := by have := hS2.len; rw [Ssm.ns_len, arr_len, ← Hm.out] at this; exact this
      subst hqn
      have hrow : ∀ r ∈ l, r.length = s.cols.length := fun r hr => ((Sc.fits_get _ _).1 (hA.out.1.2 r hr).2).1
      have hmay : ∀ r ∈ l, ∀ v ∈ r, May v := fun r hr v hv => by
        obtain ⟨j, hj, rfl⟩ := List.getElem_of_mem hv
        have h3 := (Sc.fits_get _ _).1 (hA.out.1.2 r hr).2
        have := (h3.2 j (by omega)).1.1
        simpa [List.getD, List.getElem?_eq_getElem hj] using this
      have hsn := HS.out.len
      rw [← hsn] at hrow
      have Cc := Lib.hid (columns_any n R qn d l QA qn qc2 (arr s l) w2 (HL.out.below H2.out.b) hS2 (fun z hz => (arr_mem s l).1 hz) hrow hmay hn hm4)
      have HS2 := Lib.hid hS2
      have HN2 := Lib.hid (fun a (ha : QA = some a) => Nat.le_trans HB.out.z (hN2 a ha))
      obtain ⟨c0, c1, c2, c3, c4⟩ := five H2.out.s
      have Hsn := Lib.hid hsn
      clear hB2 hS2 hN2 Ca hrow hmay hsn HB
      go_wp2_with fail
      refine Cc.out.mono ?_
      rintro e w3 ⟨KA, kc, ks, rfl, hC3, hk3, hB3, hN3⟩
      have H3 := Lib.hid (H2.out.below hB3)
      have HS3 := Lib.hid (HS2.out.below hB3)
      have HC3 := Lib.hid hC3
      have Hk3 := Lib.hid hk3
      have HN3 := Lib.hid (fun a (ha : KA = some a) => Nat.le_trans H2.out.z (hN3 a ha))
      obtain ⟨d0, d1, d2, d3, d4, d5⟩ := H3.out.x.six
      clear hC3 hk3 hB3 hN3 Cc c0 c1 c2 c3 c4 HS2 H2
      go_upto_region 10 with fail
      obtain ⟨p, hp⟩ : ∃ p, p = w3.heap.size := ⟨_, rfl⟩
      obtain ⟨T, hT⟩ : ∃ T, T = offsOf offs (arr s l) := ⟨_, rfl⟩
      have hTl : T.length = qn := by rw [hT, offsOf, List.length_map, arr_len, ← Hm.out]
      have I0 : BI w3 (w3.alloc (.cells #[.int .i64 x.part, .int .i64 x.id, .int .i64 x.st, .int .i64 x.en, .slice none 0 0, .slice KA n kc] 28)) p n kc x KA T 0 := by
        rw [hp]
        exact ⟨⟨none, 0, Wd.Bx.new _ _ _, by simpa using World.ownsRow_nil _ _ _ _⟩, (Below.refl _ _).alloc (Nat.le_refl _) _⟩
      have hpz : p ≤ w3.heap.size ∧ w3.heap.size ≤ p := by omega
      rw [← hp]
      generalize w3.alloc (.cells #[.int .i64 x.part, .int .i64 x.id, .int .i64 x.st, .int .i64 x.en, .slice none 0 0, .slice KA n kc] 28) = w4 at *
      have HI0 := Lib.hid I0
      have HT := Lib.hid hT
      have HTl := Lib.hid hTl
      clear I0 hp hT hTl d0 d1 d2 d3 d4 d5
      go_wp2_with fail
      go_loopw [72] (fun i wr => ∃ k : Nat, i = .int .i64 k ∧ k ≤ qn ∧ Hid (BI w3 wr p n kc x KA T k)) (fun i _ => qn - (intOf i).toNat)
      case atStart => exact ⟨0, rfl, Nat.zero_le _, HI0⟩
      case round =>
        clear HI0
        obtain ⟨k, rfl, hk, hI⟩ := hrel
        by_cases hlt : k < qn
        · have hkI : (k : Int) < (qn : Int) := by omega
          obtain ⟨V, vc, hbx, hown⟩ := hI.out.ex
          have hbel := hI.out.bel
          have hbw : Below w.heap.size w wr := H3.out.b.trans (hbel.mono H3.out.b.size)
          have hkl : k < (arr s l).length := by rw [arr_len, ← Hm.out]; exact hlt
          obtain ⟨ob, oo, hOA, _, oc0⟩ := (HS3.out.below hbel).rd k (by rw [Ssm.ns_len]; exact hkl)
          rw [Ssm.ns_get] at oc0
          have hyl : (arr s l).getD k 0 < offs.length := by
            rw [hA.out.2.2.1]
            refine (arr_mem s l).1 ?_
            rw [List.getD_eq_getElem?_getD, List.getElem?_eq_getElem hkl]
            exact List.getElem_mem hkl
          have hTk : T.take (k + 1) = T.take k ++ [offs.getD ((arr s l).getD k 0) 0] := by
            have hk1 : k < T.length := by rw [HTl.out]; exact hlt
            rw [List.take_succ_eq_append_getElem hk1]
            congr 2
            have e1 : T[k] = T.getD k 0 := by simp [List.getD, hk1]
            rw [e1, HT.out, offsOf, List.getD_eq_getElem?_getD, List.getElem?_map, List.getElem?_eq_getElem hkl, List.getD_eq_getElem?_getD (l := arr s l), List.getElem?_eq_getElem hkl]
            rfl
          obtain ⟨y, hy⟩ : ∃ y, y = (arr s l).getD k 0 := ⟨_, rfl⟩
          rw [← hy] at oc0 hyl hTk
          obtain ⟨qb, qo, hQA, _, qc0⟩ := (HQ.out.below hbw).rd y hyl
          subst hOA hQA
          have yq : (y : Int) < (q : Int) := by have := Hq.out; omega
          obtain ⟨z, hz⟩ : ∃ z, z = offs.getD y 0 := ⟨_, rfl⟩
          rw [← hz] at qc0 hTk
          have b4 := hbx.cell 4
          have hplt := hbx.lt
          have hsz := hbel.size
          have hO5 : (wr.drew.alloc (.cells #[.int .i64 z] 3)).ownsRow (p + 1) 3 1 (.slice V k vc) (T.take k).length ((T.take k).map (Value.int .i64)) := hown.drew.alloc _
          have hb5 : Wd.Bx (wr.drew.alloc (.cells #[.int .i64 z] 3)) p 28 #[.int .i64 x.part, .int .i64 x.id, .int .i64 x.st, .int .i64 x.en, .slice V k vc, .slice KA n kc] := hbx.drew.alloc _
          have hl5 : Below w3.heap.size w3 (wr.drew.alloc (.cells #[.int .i64 z] 3)) := hbel.drew.alloc hsz _
          have hR5 : Wd.Rd (wr.drew.alloc (.cells #[.int .i64 z] 3)) (wr.drew.heap.size + 1) .i64 (some ⟨wr.drew.heap.size, 0, none⟩) [z] := Wd.Rd.lit wr.drew .i64 [z] 3 _ rfl
          have hz5 : p + 1 ≤ (wr.drew.alloc (.cells #[.int .i64 z] 3)).heap.size := by
            have : (wr.drew.alloc (.cells #[.int .i64 z] 3)).heap.size = wr.heap.size + 1 := by
              rw [World.size_alloc]
              rfl
            omega
          have htl : (T.take k).length ≤ 1000000 := by rw [List.length_take]; omega
          have htk1 : (T.take k ++ [z]).length = k + 1 := by rw [List.length_append, List.length_take, List.length_singleton]; have := HTl.out; omega
          have Hy := Lib.hid hy
          have Hz := Lib.hid hz
          have HTk := Lib.hid hTk
          clear hy hz hTk hown hbx hbel hbw hkl hyl hI
          go_wp2_with fail
          go_region_law (refine Wd.step_app _ rfl (.tmp 77) (.tmp 82) 25 rfl (p + 1) 3 i0 _ .i64 8 Tryz.underlying25 hi hz0 hz1 hz2 rfl (.slice V k vc) (T.take k) rfl hO5 (wr.drew.heap.size + 1) (some ⟨wr.drew.heap.size, 0, none⟩) 1 1 [z] rfl rfl (by simp) hR5 (by simp only [List.length_singleton]; omega) (by simp only [List.length_singleton]; unfold maxLen; omega) hz5 ?_; intro v6 w6 hO6 hg6; obtain ⟨A6, cc6, rfl⟩ := Wd.own_slice hO6 htk1; have hb6 := hb5.grown hg6 (hb5.apart hO5 (by decide)); have c6 := hb6.cell 4; have f6 := hb6.free 4; have hl6 : Below w3.heap.size w3 w6 := hl5.grown hg6 hl5.size fun g hg => (by have := (hO5.lt g hg).1; omega))
          all_goals (
            have I7 : Hid (BI w3 (w6.setCell ⟨p, 4, none⟩ (.slice A6 (k + 1) cc6)) p n kc x KA T (k + 1)) := Lib.hid ⟨⟨A6, cc6, by
              have := hb6.set 4 (.slice A6 (k + 1) cc6)
              simpa using this, by
              rw [HTk.out]
              exact Wd.own_keep hO6 fun g hg => Below.heap_setCell _ _ _ _ (fun e => by have := (Wd.own_lt hO6 hg).2.1; have e' : g = p := e; omega)⟩, hl6.setCell (p := ⟨p, 4, none⟩) hpz.2 _⟩
            clear hb6 hO6 hg6 c6 f6 hl6 hO5 hb5 hl5 hR5
            go_wp2_with fail
            go_roundw
            case rel => exact ⟨k + 1, by go_num, by omega, I7⟩
            case measure => simp [intOf]; omega)
        · have hkI : ¬ (k : Int) < (qn : Int) := by omega
          obtain rfl : k = qn := by omega
          obtain ⟨V, vc, hbx, hown⟩ := hI.out.ex
          have hr3 := H3.out.r.below H3.out.r.lt hI.out.bel
          obtain ⟨u0, u1, u2, u3, u4, u5⟩ := Gb.six hr3
          have f0 := hr3.free 0
          have f1 := hr3.free 1
          have f2 := hr3.free 2
          have f3 := hr3.free 3
          have f4 := hr3.free 4
          have f5 := hr3.free 5
          obtain ⟨v0, v1, v2, v3, v4, v5⟩ := Gb.six (show Gb wr p x.part x.id x.st x.en V k vc KA n kc from hbx)
          have hown' := hown
          rw [List.take_of_length_le (by rw [HTl.out]; exact Nat.le_refl _)] at hown'
          obtain ⟨V', n', vc', e1, hSl⟩ := Wd.Sl.of_own hown'
          cases e1
          have m6 := mv6 wr (w.heap.size + 1 + 1) (.int .i64 x.part) (.int .i64 x.id) (.int .i64 x.st) (.int .i64 x.en) (.slice V k vc) (.slice KA n kc)
          have K6 := Lib.hid (box6 (x0 := .int .i64 x.part) (x1 := .int .i64 x.id) (x2 := .int .i64 x.st) (x3 := .int .i64 x.en) (x4 := .slice V k vc) (x5 := .slice KA n kc) hr3)
          have B6 := Lib.hid (below6 (H3.out.b.trans (hI.out.bel.mono H3.out.b.size)) (p := w.heap.size + 1 + 1) (by omega) (.int .i64 x.part) (.int .i64 x.id) (.int .i64 x.st) (.int .i64 x.en) (.slice V k vc) (.slice KA n kc))
          have hz3 := H3.out.z
          have hSl6 := hSl.keep m6 fun a ha _ q => by
            have := (Wd.own_lt hown (x := a.block) (by rw [ha]; rfl)).2.1
            omega
          have hcm := HC3.out.below hI.out.bel
          have hcm6 := hcm.keep m6 (fun a ha q => by have := HN3.out a ha; omega) fun j hj => by
            obtain ⟨_, _, _, _, _, h1⟩ := hcm.at_ j hj
            exact ⟨h1.dict.apart hr3 (by simp), h1.ids.apart hr3 (by simp)⟩
          have hqo6 := (HS3.out.below hI.out.bel).keep m6 fun a ha _ q => by have := HN2.out a ha; omega
          have hfit : Wd.Fits .i64 T := fun z hz => by
            rw [HT.out] at hz
            obtain ⟨y, hy, rfl⟩ := List.mem_map.1 hz
            have := (arr_mem s l).1 hy
            refine hf _ ?_
            rw [List.getD_eq_getElem?_getD, List.getElem?_eq_getElem (by rw [hA.out.2.2.1]; exact this)]
            exact List.getElem_mem _
          have hSg := Lib.hid (show Sg _ V k vc KA n kc ks (sealed s x l offs) from ⟨by rw [HT.out] at hSl6; exact hSl6, hcm6, by show colsOf s.cols.length l (arr s l) = _; rw [← Hsn.out]; exact Hk3.out.symm, by rw [HT.out] at hfit; exact hfit, HX.out.w0, HX.out.w1, HX.out.w2, HX.out.w3⟩)
          have Hqo := Lib.hid hqo6
          clear hSl6 hcm6 hcm hqo6 hfit m6 hSl hown hown' hr3 hbx hI
          go_wp2_with fail
          have g0 := K6.out.cell 0
          have g1 := K6.out.cell 1
          have g2 := K6.out.cell 2
          have g3 := K6.out.cell 3
          have g4 := K6.out.cell 4
          have g5 := K6.out.cell 5
          refine bodyPost_ret (v := .tuple #[.agg #[.int .i64 x.part, .int .i64 x.id, .int .i64 x.st, .int .i64 x.en, .slice V k vc, .slice KA n kc], .slice QA k qc2, .int .i64 0]) ?_ rfl (by rw [hr1.out]; exact ⟨_, _, _, _, _, _, _, _, _, _, rfl, hSg.out, Hqo.out, B6.out⟩)
          rw [Vc.res_cell3 rfl]; go_simp
end Se
end Go.Proofs.YtoibpbnebcoafaaGreat
namespace Go.Proofs.YtoibpbnebcoafaaGreat
open Go.Shelf
def Tryz.sortedI_ren : Go.Shelf.Ren := ⟨fun | 6 => 75 | 8 => 103 | 9 => 104 | 11 => 131 | 13 => 133 | 12 => 132 | 23 => 153 | 24 => 154 | 14 => 144 | 15 => 145 | 16 => 146 | 17 => 147 | 18 => 148 | 19 => 149 | 20 => 150 | 21 => 151 | 22 => 152 | 25 => 158 | 26 => 159 | 27 => 160 | 28 => 161 | 29 => 162 | 30 => 106 | 31 => 171 | n => n, fun | 26 => 3 | 28 => 103 | 24 => 25 | 0 => 0 | 3 => 3 | 37 => 148 | 48 => 169 | 50 => 158 | 4 => 4 | 40 => 162 | 39 => 161 | 45 => 152 | 5 => 5 | 9 => 9 | 51 => 173 | 55 => 177 | 57 => 184 | 58 => 185 | 33 => 118 | n => n, fun | n => n⟩
theorem Tryz.sortedI : Go.Proofs.SlLaysZI.n6 Tryz.prog Tryz.sortedI_ren := {
  mixed := by kernel_rfl
  f6 := ⟨Tryz.f75.name, by decide, Tryz.func75.trans (congrArg some (by kernel_rfl))⟩
  f8 := ⟨Tryz.f103.name, by decide, Tryz.func103.trans (congrArg some (by kernel_rfl))⟩
  f11 := ⟨Tryz.f131.name, by decide, Tryz.func131.trans (congrArg some (by kernel_rfl))⟩
  t0 := Tryz.underlying0
  a0 := Tryz.isAgg0
  z0 := Tryz.sizeOf0
  v0 := Tryz.zeroValue0
  t24 := Tryz.underlying25
  a24 := Tryz.isAgg25
  z24 := Tryz.sizeOf25
  v24 := Tryz.zeroValue25
  t26 := Tryz.underlying3
  a26 := Tryz.isAgg3
  z26 := Tryz.sizeOf3
  v26 := Tryz.zeroValue3
  t28 := Tryz.underlying103
  a28 := Tryz.isAgg103
  z28 := Tryz.sizeOf103
  v28 := Tryz.zeroValue103
  i26 := by kernel_rfl }
def Tryz.sortI_ren : Go.Shelf.Ren := ⟨fun | 5 => 104 | 8 => 133 | 7 => 132 | 19 => 153 | 20 => 154 | 10 => 144 | 11 => 145 | 12 => 146 | 13 => 147 | 14 => 148 | 15 => 149 | 16 => 150 | 17 => 151 | 18 => 152 | 30 => 158 | 31 => 159 | 32 => 160 | 33 => 161 | 34 => 162 | 35 => 106 | 40 => 171 | n => n, fun | 23 => 25 | 25 => 3 | 3 => 3 | 32 => 148 | 22 => 25 | 0 => 0 | 44 => 169 | 46 => 158 | 4 => 4 | 36 => 162 | 35 => 161 | 41 => 152 | 5 => 5 | 9 => 9 | 53 => 173 | 57 => 177 | 63 => 184 | 64 => 185 | n => n, fun | n => n⟩
theorem Tryz.sortI : Go.Proofs.SlLaysM.n5 Tryz.prog Tryz.sortI_ren := {
  mixed := by kernel_rfl
  f5 := ⟨Tryz.f104.name, by decide, Tryz.func104.trans (congrArg some (by kernel_rfl))⟩
  f7 := ⟨Tryz.f132.name, by decide, Tryz.func132.trans (congrArg some (by kernel_rfl))⟩
  f8 := Tryz.func133.trans (congrArg some (by kernel_rfl))
  f10 := ⟨Tryz.f144.name, by decide, Tryz.func144.trans (congrArg some (by kernel_rfl))⟩
  f11 := ⟨Tryz.f145.name, by decide, Tryz.func145.trans (congrArg some (by kernel_rfl))⟩
  f12 := ⟨Tryz.f146.name, by decide, Tryz.func146.trans (congrArg some (by kernel_rfl))⟩
  f13 := ⟨Tryz.f147.name, by decide, Tryz.func147.trans (congrArg some (by kernel_rfl))⟩
  f14 := ⟨Tryz.f148.name, by decide, Tryz.func148.trans (congrArg some (by kernel_rfl))⟩
  f15 := ⟨Tryz.f149.name, by decide, Tryz.func149.trans (congrArg some (by kernel_rfl))⟩
  f16 := ⟨Tryz.f150.name, by decide, Tryz.func150.trans (congrArg some (by kernel_rfl))⟩
  f17 := ⟨Tryz.f151.name, by decide, Tryz.func151.trans (congrArg some (by kernel_rfl))⟩
  f18 := ⟨Tryz.f152.name, by decide, Tryz.func152.trans (congrArg some (by kernel_rfl))⟩
  f19 := Tryz.func153.trans (congrArg some (by kernel_rfl))
  f20 := Tryz.func154.trans (congrArg some (by kernel_rfl))
  f30 := ⟨Tryz.f158.name, by decide, Tryz.func158.trans (congrArg some (by kernel_rfl))⟩
  f31 := Tryz.func159.trans (congrArg some (by kernel_rfl))
  f32 := Tryz.func160.trans (congrArg some (by kernel_rfl))
  f33 := ⟨Tryz.f161.name, by decide, Tryz.func161.trans (congrArg some (by kernel_rfl))⟩
  f34 := ⟨Tryz.f162.name, by decide, Tryz.func162.trans (congrArg some (by kernel_rfl))⟩
  f35 := ⟨Tryz.f106.name, by decide, Tryz.func106.trans (congrArg some (by kernel_rfl))⟩
  f40 := ⟨Tryz.f171.name, by decide, Tryz.func171.trans (congrArg some (by kernel_rfl))⟩
  t0 := Tryz.underlying0
  a0 := Tryz.isAgg0
  z0 := Tryz.sizeOf0
  v0 := Tryz.zeroValue0
  t3 := Tryz.underlying3
  a3 := Tryz.isAgg3
  z3 := Tryz.sizeOf3
  v3 := Tryz.zeroValue3
  t4 := Tryz.underlying4
  a4 := Tryz.isAgg4
  z4 := Tryz.sizeOf4
  v4 := Tryz.zeroValue4
  t5 := Tryz.underlying5
  a5 := Tryz.isAgg5
  z5 := Tryz.sizeOf5
  v5 := Tryz.zeroValue5
  t9 := Tryz.underlying9
  a9 := Tryz.isAgg9
  z9 := Tryz.sizeOf9
  v9 := Tryz.zeroValue9
  t22 := Tryz.underlying25
  a22 := Tryz.isAgg25
  z22 := Tryz.sizeOf25
  v22 := Tryz.zeroValue25
  t23 := Tryz.underlying25
  a23 := Tryz.isAgg25
  z23 := Tryz.sizeOf25
  v23 := Tryz.zeroValue25
  t25 := Tryz.underlying3
  a25 := Tryz.isAgg3
  z25 := Tryz.sizeOf3
  v25 := Tryz.zeroValue3
  t32 := Tryz.underlying148
  a32 := Tryz.isAgg148
  z32 := Tryz.sizeOf148
  v32 := Tryz.zeroValue148
  t35 := Tryz.underlying161
  a35 := Tryz.isAgg161
  z35 := Tryz.sizeOf161
  v35 := Tryz.zeroValue161
  t36 := Tryz.underlying162
  a36 := Tryz.isAgg162
  z36 := Tryz.sizeOf162
  v36 := Tryz.zeroValue162
  t41 := Tryz.underlying152
  a41 := Tryz.isAgg152
  z41 := Tryz.sizeOf152
  v41 := Tryz.zeroValue152
  t44 := Tryz.underlying169
  a44 := Tryz.isAgg169
  z44 := Tryz.sizeOf169
  v44 := Tryz.zeroValue169
  t46 := Tryz.underlying158
  a46 := Tryz.isAgg158
  z46 := Tryz.sizeOf158
  v46 := Tryz.zeroValue158
  t53 := Tryz.underlying173
  a53 := Tryz.isAgg173
  z53 := Tryz.sizeOf173
  v53 := Tryz.zeroValue173
  t57 := Tryz.underlying177
  a57 := Tryz.isAgg177
  z57 := Tryz.sizeOf177
  v57 := Tryz.zeroValue177
  t63 := Tryz.underlying184
  a63 := Tryz.isAgg184
  z63 := Tryz.sizeOf184
  v63 := Tryz.zeroValue184
  t64 := Tryz.underlying185
  a64 := Tryz.isAgg185
  z64 := Tryz.sizeOf185
  v64 := Tryz.zeroValue185 }
end Go.Proofs.YtoibpbnebcoafaaGreat
