/- The walk of RowsNone: a nil Rows has none, and takes none; what is handed in stays, and what is told is its own. -/
import Derived.Test.YtfeolclpgilfdaaPk19
namespace Go.Proofs.Ytfeolclpgilfdaa
set_option maxRecDepth 20000
open Go.RowKit Go.Maps
namespace Rw
open Va (Vl May null)
open Sc (Sch FitS MayS fits fits_get tr tr_yes tr_no tr_iff tr_congr)
open Sx (smallS small_may)
def n0 : St := ⟨smallS, 5, 5, [], []⟩
theorem mayn : MayN smallS 5 5 := ⟨small_may, ⟨by decide, by decide⟩, ⟨by decide, by decide⟩⟩
theorem ern {n : Int} (h : I64 n) : er n0 (rowL n) 1 = 0 := er_ok ⟨fit_row h, by decide, by decide⟩ (fun q => q.1 rfl) fun q => q.elim (by simp [n0]) fun q => q (room_nil rfl (by decide) _)
theorem appn {n : Int} (h : I64 n) : app n0 (rowL n) 1 = more n0 (rowL n) 1 := if_pos (ern h)
theorem numn {n : Int} (h : I64 n) : num n0 (rowL n) 1 = 0 := if_pos (ern h)
/-- A row that is turned in one place: block g, of the call's own, is no block of the rows. -/
theorem Ob.turn {wo w w' : World} {r g : Nat} {S : St} {F : Nat → Prop} (h : Ob wo w r S F) (mv : Wd.Mv (· = g) w w') (hg : wo.heap.size ≤ g) (hF : ¬ F g) : Ob wo w' r S F := by
  exact ⟨h.mem.keep mv (fun x e q => hF (by rw [show x = g from e] at q; exact q)), h.ok, h.new, h.bel.trans (mv.below (fun y hy => by omega) h.bel.size)⟩
theorem rows1 (n : Int) : (more n0 (rowL n) 1).rows = [rowL n] := rfl
theorem turn1 {w : World} {g j : Nat} {u : Value} : Wd.Mv (· = g) w (w.setCell ⟨g, j, none⟩ u) := (Wd.Mv.refl (· = g) w).set (a := ⟨g, j, none⟩) rfl u
set_option maxHeartbeats 4000000 in
theorem rowsNone_walk (n i : Int) (w : World) (h0 : -9223372036854775808 ≤ n) (h1 : n ≤ 9223372036854775807) : Calls Try.prog 5 #[.int .i64 n, .int .i64 i] w fun e w' => e = .returned (.bool true) ∧ Below w.heap.size w w' := by
  have hn : I64 n := ⟨h0, h1⟩
  have Hn := Lib.hid hn
  have Cw := Lib.hid (awake_any w)
  have Cr := Lib.hid (row_any n)
  have Cs := Lib.hid Sx.Small_any
  clear hn h0 h1
  go_enter Try.func5, Try.ntmps5
  go_wp2_with fail
  refine Cw.out.mono ?_
  rintro e w1 ⟨rfl, hB1⟩
  have Hb := Lib.hid hB1
  clear hB1 Cw
  go_wp2_with fail
  refine (Cr.out w1).mono ?_
  rintro e w2 ⟨g2, rfl, -, -, hB2⟩
  have Hb2 := Lib.hid (Hb.out.trans (hB2.mono Hb.out.size))
  clear hB2 Hb
  go_wp2_with fail
  refine (append_nil 0).mono ?_
  rintro e w3 ⟨rfl, hB3⟩
  have Hb3 := Lib.hid (Hb2.out.trans (hB3.mono Hb2.out.size))
  clear hB3 Hb2
  go_wp2_with fail
  refine (at_nil i w3).mono ?_
  rintro e w4 ⟨rfl, hB4⟩
  have Hb4 := Lib.hid (Hb3.out.trans (hB4.mono Hb3.out.size))
  clear hB4 Hb3
  go_wp2_with fail
  refine (Cs.out w4).mono ?_
  rintro e w5 ⟨A, rfl, hS5, hB5⟩
  have Cn := Lib.hid (ob_new (s := smallS) 5 5 (Hb4.out.trans (hB5.mono Hb4.out.size)) hS5 (by omega))
  clear hB5 hS5 Hb4
  go_wp2_with fail
  refine Cn.out.mono ?_
  rintro e w6 ⟨hB6, ⟨hM, -⟩ | ⟨-, r, F0, rfl, O0, hF0⟩⟩
  · exact absurd mayn hM
  have H0 := Lib.hid O0
  clear Cn hB6 hF0 O0
  go_wp2_with fail
  refine (Cr.out w6).mono ?_
  rintro e w7 ⟨g7, rfl, hR7, hg7, hB7⟩
  have hnF : ¬ F0 g7 := fun q => by have := H0.out.lt q; omega
  have C1 := ob_append 1 (H0.out.below hB7) (row_vs hR7 Hn.out) (not_some hnF)
  rw [show er ⟨smallS, 5, 5, [], []⟩ (rowL n) 1 = 0 from ern Hn.out, show num ⟨smallS, 5, 5, [], []⟩ (rowL n) 1 = 0 from numn Hn.out, show app ⟨smallS, 5, 5, [], []⟩ (rowL n) 1 = _ from appn Hn.out] at C1
  have D1 := Lib.hid C1
  have R7 := Lib.hid (And.intro hR7 (And.intro hnF (show w.heap.size ≤ g7 by have := H0.out.bel.size; omega)))
  clear C1 hR7 hg7 hB7 H0 hnF
  go_wp2_with fail
  refine D1.out.mono ?_
  rintro e w8 ⟨rfl, mv8, F1, O1, hF1⟩
  have hR8 : Wd.RowV w8 g7 (rowL n) := (mv8.keep g7 R7.out.1.lt R7.out.2.1).trans R7.out.1
  have hnF8 : ¬ F1 g7 := fun q => by
    rcases hF1 g7 q with z | z
    · exact R7.out.2.1 z
    · have := R7.out.1.lt
      omega
  have c1 : w8.cell? ⟨g7, 1, none⟩ = some (.int .i64 n) := Wd.Bx.cell hR8 1
  have f1 := Wd.Bx.free hR8 1
  have H1 := Lib.hid (And.intro O1 hnF8)
  clear mv8 O1 hF1 hR8 hnF8 D1
  go_wp2_with fail
  generalize hw9 : w8.setCell ⟨g7, 1, none⟩ (.int .i64 (wrap64 (n + 1))) = w9
  have H9 : Hid (Ob w w9 r (more n0 (rowL n) 1) F1) := Lib.hid (by rw [← hw9]; exact H1.out.1.turn turn1 R7.out.2.2 H1.out.2)
  clear hw9 c1 f1 H1
  have Ca : Hid (Calls Try.prog 17 #[Dt.pt r, .int .i64 0] w9 fun e w' => ∃ gr, e = .returned (.tuple #[.slice (some ⟨gr, 0, none⟩) 2 2, .int .i64 1, .bool true]) ∧ Wd.RowV w' gr (rowL n) ∧ w9.heap.size ≤ gr ∧ Below w9.heap.size w9 w') := Lib.hid (at_in H9.out.mem H9.out.ok 0 (by simp [more, n0]))
  refine Ca.out.mono ?_
  rintro e w10 ⟨gx, rfl, hRx, hgx, hB10⟩
  have H10 := Lib.hid (H9.out.below hB10)
  have X10 := Lib.hid (And.intro hRx (And.intro (show ¬ F1 gx from fun q => by have := H9.out.lt q; omega) (show w.heap.size ≤ gx by have := H9.out.bel.size; omega)))
  clear hRx hgx hB10 Ca H9
  go_wp2_with fail
  have Co := Lib.hid (offsets_any H10.out.mem H10.out.ok)
  refine Co.out.mono ?_
  rintro e w11 ⟨v, rfl, hown, hB11⟩
  have hnm : v.ownBlock ≠ none := by
    rcases hown.2 with ⟨_, h0⟩ | ⟨go, cap, cur, rfl, _⟩
    · simp [more, n0] at h0
    · simp [Value.ownBlock]
  obtain ⟨go, hgo⟩ : ∃ go, v.ownBlock = some go := by
    cases hv : v.ownBlock with
    | none => exact absurd hv hnm
    | some go => exact ⟨go, rfl⟩
  obtain ⟨lgo, bgo, cur, hcur⟩ := Wd.own_lt hown hgo
  obtain ⟨Ao, no, co, rfl, hSo⟩ := Wd.Sl.of_own hown
  obtain rfl : no = 1 := hSo.len
  obtain ⟨bo, oo, rfl, hbo, hco⟩ := hSo.rd.some_ (by simp [more, n0])
  have c11 : w11.cell? ⟨bo, oo, none⟩ = some (.int .i64 1) := hco 0 (by simp [more, n0])
  obtain rfl : bo = go := by simpa [Value.ownBlock] using hgo
  have f11 : w11.frozen? ⟨bo, oo, none⟩ = false := frozen_of_row w11 bo oo cur _ hcur
  have H11 := Lib.hid (H10.out.below hB11)
  have X11 := Lib.hid (And.intro (Wd.RowV.below X10.out.1 X10.out.1.lt hB11) (And.intro X10.out.2.1 X10.out.2.2))
  have O11 := Lib.hid (And.intro c11 (And.intro f11 (And.intro (show ¬ F1 bo from fun q => by have := H10.out.lt q; omega) (And.intro (show w.heap.size ≤ bo by have := H10.out.bel.size; omega) (And.intro lgo (show gx < bo by have := X10.out.1.lt; omega))))))
  clear hown hnm hgo lgo bgo hcur hSo hbo hco c11 f11 hB11 Co H10 X10
  go_wp2_with fail
  have Cc : Hid (Calls Try.prog 19 #[Dt.pt r, .int .i64 0] w11 fun e w' => ∃ gr, e = .returned (.slice (some ⟨gr, 0, none⟩) 1 1) ∧ Wd.RowV w' gr [⟨1, n, ⟨#[]⟩, false⟩] ∧ w11.heap.size ≤ gr ∧ Below w11.heap.size w11 w') := Lib.hid (column_in H11.out.mem H11.out.ok 0 (by simp [more, n0, smallS]))
  refine Cc.out.mono ?_
  rintro e w12 ⟨gc, rfl, hRc, hgc, hB12⟩
  have H12 := Lib.hid (H11.out.below hB12)
  have X12 := Lib.hid (And.intro (Wd.RowV.below X11.out.1 X11.out.1.lt hB12) (And.intro X11.out.2.1 X11.out.2.2))
  have O12 := Lib.hid (And.intro ((hB12.cell (p := ⟨bo, oo, none⟩) O11.out.2.2.2.2.1).trans O11.out.1) (show w12.frozen? ⟨bo, oo, none⟩ = false from (hB12.frozen (p := ⟨bo, oo, none⟩) O11.out.2.2.2.2.1).trans O11.out.2.1))
  have C12 := Lib.hid (And.intro hRc (And.intro (show ¬ F1 gc from fun q => by have := H11.out.lt q; omega) (And.intro (show w.heap.size ≤ gc by have := H11.out.bel.size; omega) (show bo < gc ∧ gx < gc by have := O11.out.2.2.2.2.1; have := X11.out.1.lt; omega))))
  clear hRc hgc hB12 Cc H11 X11
  have x1 : w12.cell? ⟨gx, 1, none⟩ = some (.int .i64 n) := Wd.Bx.cell X12.out.1 1
  have fx := Wd.Bx.free X12.out.1 1
  have y1 : w12.cell? ⟨gc, 1, none⟩ = some (.int .i64 n) := Wd.Bx.cell C12.out.1 1
  have fy := Wd.Bx.free C12.out.1 1
  have o1 := O12.out.1
  have fo := O12.out.2
  have n1 : ¬ gx = bo := by have := O11.out.2.2.2.2.2; omega
  have n2 : ¬ gx = gc := by have := C12.out.2.2.2; omega
  have n3 : ¬ bo = gc := by have := C12.out.2.2.2; omega
  have n4 : ¬ bo = gx := fun e => n1 e.symm
  have n5 : ¬ gc = gx := fun e => n2 e.symm
  have n6 : ¬ gc = bo := fun e => n3 e.symm
  go_wp2_with fail
  clear x1 fx y1 fy o1 fo n1 n2 n3 n4 n5 n6
  generalize hw13 : ((w12.setCell ⟨gx, 1, none⟩ (.int .i64 (wrap64 (n + 1)))).setCell ⟨bo, oo, none⟩ (.int .i64 77)).setCell ⟨gc, 1, none⟩ (.int .i64 (wrap64 (n + 2))) = w13
  have H13 : Hid (Ob w w13 r (more n0 (rowL n) 1) F1) := Lib.hid (by
    rw [← hw13]
    exact ((H12.out.turn turn1 X12.out.2.2 X12.out.2.1).turn turn1 O11.out.2.2.2.1 O11.out.2.2.1).turn turn1 C12.out.2.2.1 C12.out.2.1)
  clear hw13 H12 X12 O12 C12 O11
  have Ca : Hid (Calls Try.prog 17 #[Dt.pt r, .int .i64 0] w13 fun e w' => ∃ gr, e = .returned (.tuple #[.slice (some ⟨gr, 0, none⟩) 2 2, .int .i64 1, .bool true]) ∧ Wd.RowV w' gr (rowL n) ∧ w13.heap.size ≤ gr ∧ Below w13.heap.size w13 w') := Lib.hid (at_in H13.out.mem H13.out.ok 0 (by simp [more, n0]))
  refine Ca.out.mono ?_
  rintro e w14 ⟨gy, rfl, hRy, hgy, hB14⟩
  have H14 := Lib.hid (H13.out.below hB14)
  have V14 := Lib.hid (row_vs hRy Hn.out)
  clear hRy hgy hB14 Ca H13
  go_wp2_with fail
  refine (Cr.out w14).mono ?_
  rintro e w15 ⟨g15, rfl, hR15, hg15, hB15⟩
  have C1 := Sx.sameV_any _ _ _ _ _ _ _ _ w15 (V14.out.below hB15) (row_vs hR15 Hn.out)
  rw [tr_yes rfl] at C1
  have D1 := Lib.hid C1
  have H15 := Lib.hid (H14.out.below hB15).bel
  clear C1 hR15 hg15 hB15 H14 V14
  go_wp2_with fail
  refine D1.out.mono ?_
  rintro e w16 ⟨rfl, hB16⟩
  have H16 := Lib.hid (H15.out.trans (hB16.mono H15.out.size))
  clear hB16 H15 D1
  go_wp2_with fail
  refine (len_nil w16).mono ?_
  rintro e w17 ⟨rfl, e17⟩
  subst e17
  go_wp2_with fail
  refine (column_none (find_nil i w17)).mono ?_
  rintro e w18 ⟨g18, rfl, -, -, hB18⟩
  have H18 := Lib.hid (H16.out.trans (hB18.mono H16.out.size))
  clear hB18 H16
  go_wp2_with fail
  refine (offsets_nil w18).mono ?_
  rintro e w19 ⟨rfl, e19⟩
  subst e19
  go_wp2_with fail
  refine (values_none (find_nil i w19)).mono ?_
  rintro e w20 ⟨rfl, hB20⟩
  have H20 := Lib.hid (H18.out.trans (hB20.mono H18.out.size))
  clear hB20 H18
  go_wp2_with fail
  go_ret
  exact ⟨rfl, H20.out⟩
end Rw
namespace Lw
theorem rowsNone_walk (n i : Int) (w : World) (h0 : -9223372036854775808 ≤ n) (h1 : n ≤ 9223372036854775807) (_ : -9223372036854775808 ≤ i) (_ : i ≤ 9223372036854775807) : Calls Try.prog 5 #[.int .i64 n, .int .i64 i] w fun e w' => e = .returned (.bool true) ∧ Below w.heap.size w w' := Rw.rowsNone_walk n i w h0 h1
end Lw
end Go.Proofs.Ytfeolclpgilfdaa
