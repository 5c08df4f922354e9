/- The reference of layer 12: Rows. The reference of layer 12: May. -/
import Derived.StillTailTactics
import Derived.BigQuiet
import Derived.Test.YtaoeipehpakngaaGreatDoorPa40
import Derived.Test.YtaoeipehpakngaaGreatDoorPa21
import Derived.Test.YtaoeipehpakngaaGreatDoorPa39
import Derived.Test.YtaoeipehpakngaaGreatDoorPa37
import Derived.Test.YtaoeipehpakngaaGreatDoorPa23
namespace Go.Proofs.YtaoeipehpakngaaGreatDoor
set_option maxRecDepth 20000
open Go.RowKit Go.Maps
namespace Se
open Va (Vl)
open Sc (Sch MayS FitS tr tr_yes tr_no tr_iff tr_congr)
open Sx (Sb five)
open Wd (Cr)
theorem rows_next {x : Seg} {k : Nat} (h : k < x.offs.length) : (rows x).take (k + 1) = (rows x).take k ++ [row x (k : Int)] := by
  rw [List.take_succ_eq_append_getElem (by rw [rows_len]; exact h)]
  congr 2
  have := rows_get h
  rw [← this]
  simp [List.getD, rows_len, h]
set_option maxHeartbeats 8000000 in
theorem refRows_any (OA : Option Addr) (on oc : Nat) (CA : Option Addr) (cn cc : Nat) (os : List Cr) (x : Seg) (w : World) (hX : Sg w OA on oc CA cn cc os x) (hlt : Lt os) (hcn : cn ≤ 1000000) (hon1 : on ≤ 1000000) :
    Calls Tryz.prog 55 #[.agg #[.int .i64 x.part, .int .i64 x.id, .int .i64 x.st, .int .i64 x.en, .slice OA on oc, .slice CA cn cc]] w (OutL w (rows x)) := by
  obtain ⟨i0, hi, gz0, gz1, gz2⟩ := info_parts Wd.info_vs
  have I0 := Lib.hid (And.intro hi (And.intro gz0 (And.intro gz1 gz2)))
  have hb0 := (Below.refl w.heap.size w).alloc (Nat.le_refl _) (.cells #[.int .i64 x.part, .int .i64 x.id, .int .i64 x.st, .int .i64 x.en, .slice OA on oc, .slice CA cn cc] 28)
  have x0 := Gb.new w x.part x.id x.st x.en OA on oc CA cn cc
  have HX := Lib.hid hX
  have Hon := Lib.hid hX.offs.len
  have Hlt := Lib.hid hlt
  obtain ⟨w1, hw1⟩ : ∃ w1, w1 = w.alloc (.cells #[.int .i64 x.part, .int .i64 x.id, .int .i64 x.st, .int .i64 x.en, .slice OA on oc, .slice CA cn cc] 28) := ⟨_, rfl⟩
  rw [← hw1] at x0 hb0
  have X0 := Lib.hid x0
  have Hb0 := Lib.hid hb0
  have Hw1 := Lib.hid hw1
  clear hX x0 hb0 hi gz0 gz1 gz2 hlt hw1
  go_enter Tryz.func55, Tryz.ntmps55
  go_upto_region 1 with fail
  rw [← Hw1.out]
  go_wp2_with fail
  go_loopw [3, 4] (fun v j wr => ∃ (k : Nat) (us : List Value), j = .int .i64 k ∧ k ≤ on ∧ Hid (wr.ownsRow w1.heap.size 48 1 v k us ∧ Wd.Hw wr us ((rows x).take k) ∧ Below w1.heap.size w1 wr)) (fun _ j _ => on - (intOf j).toNat)
  case atStart => exact ⟨0, [], rfl, Nat.zero_le _, Lib.hid ⟨World.ownsRow_nil _ _ _ _, Wd.Hw.nil _, Below.refl _ _⟩⟩
  case round =>
    obtain ⟨k, us, rfl, hk, hJ⟩ := hrel
    obtain ⟨d0, d1, d2, d3, d4, d5⟩ := Gb.six (X0.out.below X0.out.lt hJ.out.2.2)
    by_cases hltk : k < on
    · have hkI : (k : Int) < (on : Int) := by omega
      have hbw : Below w.heap.size w wr := Hb0.out.trans (hJ.out.2.2.mono Hb0.out.size)
      have Cv := Lib.hid (refRow_any OA on oc CA cn cc os x (k : Int) wr (HX.out.below hbw) Hlt.out hcn)
      have Hnx := Lib.hid (rows_next (show k < x.offs.length by have := Hon.out; omega))
      obtain ⟨y, hy⟩ : ∃ y, y = row x (k : Int) := ⟨_, rfl⟩
      rw [← hy] at Cv Hnx
      have HJ := Lib.hid hJ.out
      clear hbw hJ hy
      go_wp2_with fail
      refine Cv.out.mono ?_
      rintro e w3 ⟨v5, rfl, hO5, hV5, hB3⟩
      obtain ⟨A5, c5, rfl⟩ := Wd.own_shape4 hO5
      have hall := Lib.hid (HJ.out.2.2.trans (hB3.mono HJ.out.2.2.size))
      have hzz := hall.out.size
      have hown3 := (Wd.own_below HJ.out.1 hB3).alloc (.cells #[.slice A5 y.length c5] 48)
      have hnew := (Wd.Bx.new w3 48 #[.slice A5 y.length c5]).cell 0
      have HW := Lib.hid (((HJ.out.2.1.below hB3).snoc hO5 hV5).below ((Below.refl w3.heap.size w3).alloc (Nat.le_refl _) (.cells #[.slice A5 y.length c5] 48)))
      rw [← Hnx.out] at HW
      clear hO5 hV5 hB3 Cv d0 d1 d2 d3 d4 d5
      go_wp2_with (at_builtin; refine Wd.wpList_app1v _ rfl (.tmp 12) (.tmp 16) 49 rfl w1.heap.size 48 i0 _ 24 Tryz.underlying49 I0.out.1 I0.out.2.1 I0.out.2.2.1 I0.out.2.2.2 rfl u3 k us rfl hown3 ⟨w3.heap.size, 0, none⟩ (.slice A5 y.length c5) rfl hnew rfl rfl (by unfold maxLen; omega) (by omega) (by simp; omega) ?_; intro v7 w7 hown7 hgrow7)
      have J7 := Lib.hid (show w7.ownsRow w1.heap.size 48 1 v7 (k + 1) (us ++ [.slice A5 y.length c5]) ∧ Wd.Hw w7 (us ++ [.slice A5 y.length c5]) ((rows x).take (k + 1)) ∧ Below w1.heap.size w1 w7 from
        ⟨hown7, HW.out.grown hown3 (by decide) hgrow7, (hall.out.alloc hzz (.cells #[.slice A5 y.length c5] 48)).grown hgrow7 (by simp; omega) fun g hg => (hown3.lt g hg).1⟩)
      clear hown7 hgrow7 hown3
      go_roundw
      case rel => exact ⟨k + 1, _, by go_num, by omega, J7⟩
      case measure => simp [intOf]; omega
    · obtain rfl : k = on := by omega
      have hkI : ¬ (k : Int) < (k : Int) := by omega
      have hw := hJ.out.2.1
      rw [List.take_of_length_le (by rw [rows_len, ← Hon.out]; exact Nat.le_refl _)] at hw
      obtain ⟨A5, c5, rfl, hL⟩ := Wd.Ls.of_own hJ.out.1 hw.hv
      have H := Lib.hid (And.intro hL (Hb0.out.trans (hJ.out.2.2.mono Hb0.out.size)))
      clear hJ hw hL
      go_wp2_with fail
      go_ret
      exact ⟨_, _, _, rfl, H.out.1, H.out.2⟩
end Se
end Go.Proofs.YtaoeipehpakngaaGreatDoor
namespace Go.Proofs.YtaoeipehpakngaaGreatDoor
set_option maxRecDepth 20000
open Go.RowKit
namespace Se
open Va (Vl May)
open Sc (Sch MayS FitS tr tr_yes tr_no tr_iff tr_congr)
open Sx (Sb five)
open Wd (Cr)
theorem may_size {v : Vl} (h : May v) : v.s.size ≤ maxLen := by
  unfold maxLen
  rcases h with h | h | h | h
  · rw [h.2.2.1]; decide
  · rw [h.2.1]; decide
  · have := h.2.2.1; omega
  · rw [h.2.2]; decide
theorem fit_size {s : Sch} {r : List Vl} (h : FitS s r) : ∀ v ∈ r, v.s.size ≤ maxLen := fun v hv => by
  obtain ⟨h1, h2⟩ := (Sc.fits_get _ _).1 h.2
  obtain ⟨j, hj, rfl⟩ := List.getElem_of_mem hv
  have := (h2 j (by omega)).1.1
  rw [List.getD_eq_getElem?_getD, List.getElem?_eq_getElem hj] at this
  exact may_size this
def Upto (s : Sch) (x : Seg) (k : Nat) : Prop := (∀ j, j < k → x.st ≤ x.offs.getD j 0 ∧ x.offs.getD j 0 < x.en) ∧ (∀ j, j < k → ∀ q, q < j → x.offs.getD q 0 ≠ x.offs.getD j 0) ∧ ∀ j, 1 ≤ j → j < k → Nb s x j
theorem upto_zero (s : Sch) (x : Seg) : Upto s x 0 := ⟨fun j h => by omega, fun j h => by omega, fun j h1 h2 => by omega⟩
theorem upto_next {s : Sch} {x : Seg} {k : Nat} (h : Upto s x k) (h1 : x.st ≤ x.offs.getD k 0 ∧ x.offs.getD k 0 < x.en) (h2 : ∀ q, q < k → x.offs.getD q 0 ≠ x.offs.getD k 0) (h3 : 1 ≤ k → Nb s x k) : Upto s x (k + 1) := by
  refine ⟨fun j hj => ?_, fun j hj q hq => ?_, fun j hj1 hj => ?_⟩
  · by_cases z : j = k
    · rw [z]; exact h1
    · exact h.1 j (by omega)
  · by_cases z : j = k
    · rw [z]; exact h2 q (by omega)
    · exact h.2.1 j (by omega) q hq
  · by_cases z : j = k
    · rw [z]; exact h3 (by omega)
    · exact h.2.2 j hj1 (by omega)
theorem ok_upto {s : Sch} {x : Seg} (h1 : Head x) (h2 : ColsOk s x) (h3 : Fit s (rows x)) (h : Upto s x x.offs.length) : Ok s x :=
  ⟨h1, h2.1, h2.2.1, h2.2.2, List.pairwise_iff_getElem.2 fun i j hi hj hij => by
    have := h.2.1 j hj i hij
    simpa [List.getD, hi, hj] using this, fun o ho => by
    obtain ⟨j, hj, rfl⟩ := List.getElem_of_mem ho
    have := h.1 j hj
    simpa [List.getD, hj] using this, h3, h.2.2⟩
theorem Ok.at_ {s : Sch} {x : Seg} (h : Ok s x) {k : Nat} (hk : k < x.offs.length) : (x.st ≤ x.offs.getD k 0 ∧ x.offs.getD k 0 < x.en) ∧ (∀ q, q < k → x.offs.getD q 0 ≠ x.offs.getD k 0) := by
  refine ⟨?_, fun q hq => ?_⟩
  · rw [List.getD_eq_getElem?_getD, List.getElem?_eq_getElem hk]
    exact h.rng _ (List.getElem_mem hk)
  · have := List.pairwise_iff_getElem.1 h.dis q k (by omega) hk hq
    have hq' : q < x.offs.length := by omega
    simpa [List.getD, hk, hq'] using this
theorem nb_cm {s : Sch} {x : Seg} {k : Nat} {a b : List Vl} (ha : (rows x).getD (k - 1) [] = a) (hb : (rows x).getD k [] = b) : Nb s x k ↔ ¬ 0 < cm s a b ∧ (0 < cm s b a ∨ x.offs.getD (k - 1) 0 < x.offs.getD k 0) := by
  have := cm_neg s a b
  unfold Nb cf
  rw [ha, hb]
  omega
set_option maxHeartbeats 16000000 in
theorem refMay_any (A : Option Addr) (n c : Nat) (s : Sch) (OA : Option Addr) (on oc : Nat) (CA : Option Addr) (cn cc : Nat) (os : List Cr) (x : Seg) (w : World) (hS : Wd.Cs w A n c s.cols) (hX : Sg w OA on oc CA cn cc os x) (hlt : Lt os) (hn : n ≤ 1000000) (hcn : cn ≤ 1000000) (hon : on ≤ 1000000) :
    Calls Tryz.prog 23 #[.agg #[.slice A n c, .int .i64 s.key, .int .i64 s.cmp, .int .i64 s.del, .int .i64 s.sort], .agg #[.int .i64 x.part, .int .i64 x.id, .int .i64 x.st, .int .i64 x.en, .slice OA on oc, .slice CA cn cc]] w fun e w' => e = .returned (.bool (tr (Ok s x))) ∧ Below w.heap.size w w' := by
  obtain ⟨w1, hw1⟩ : ∃ w1, w1 = (w.alloc (.cells #[.slice A n c, .int .i64 s.key, .int .i64 s.cmp, .int .i64 s.del, .int .i64 s.sort] 24)).alloc (.cells #[.int .i64 x.part, .int .i64 x.id, .int .i64 x.st, .int .i64 x.en, .slice OA on oc, .slice CA cn cc] 28) := ⟨_, rfl⟩
  have z1 : (w.alloc (.cells #[.slice A n c, .int .i64 s.key, .int .i64 s.cmp, .int .i64 s.del, .int .i64 s.sort] 24)).heap.size = w.heap.size + 1 := by simp
  have H1 : Bm w w1 A n c s OA on oc CA cn cc x := by
    have g1 := Gb.new (w.alloc (.cells #[.slice A n c, .int .i64 s.key, .int .i64 s.cmp, .int .i64 s.del, .int .i64 s.sort] 24)) x.part x.id x.st x.en OA on oc CA cn cc
    rw [z1] at g1
    rw [hw1]
    exact ⟨(Wd.Bx.new w _ _).alloc _, g1, ((Below.refl _ _).alloc (Nat.le_refl _) _).alloc (by simp) _⟩
  have H1 := Lib.hid H1
  have Hw1 := Lib.hid hw1
  have HS := Lib.hid hS
  have HX := Lib.hid hX
  have Hlt := Lib.hid hlt
  have Hn := Lib.hid hS.len
  have Hcn := Lib.hid hX.cols.len
  have Hon := Lib.hid hX.offs.len
  have hccap := hX.cols.cap
  have hcmax := hX.cols.max
  have hocap := hX.offs.cap
  have homax := hX.offs.max
  unfold maxLen at hcmax homax
  have C1 := Lib.hid (refHead_any OA on oc CA cn cc x w1)
  obtain ⟨r, hr⟩ : ∃ r, r = tr (Ok s x) := ⟨_, rfl⟩
  rw [← hr]
  have Hno := Lib.hid (fun (h : ¬ Ok s x) => (by rw [hr]; exact tr_no h : r = false))
  have Hyes := Lib.hid (fun (h : Ok s x) => (by rw [hr]; exact tr_yes h : r = true))
  obtain ⟨c0, -, -, -, -⟩ := five H1.out.s
  obtain ⟨d0, d1, d2, d3, d4, d5⟩ := Gb.six H1.out.x
  clear hw1 z1 hS hX hr hlt
  go_enter Tryz.func23, Tryz.ntmps23
  go_upto_region 1 with fail
  rw [← Hw1.out]
  by_cases h1 : Head x
  case neg =>
    have t1 := Lib.hid (tr_no h1)
    have q := Lib.hid (Hno.out fun z => h1 z.head)
    clear h1
    go_wp2_with fail
    refine C1.out.mono ?_
    rintro e w2 ⟨rfl, hB2⟩
    rw [t1.out]
    have H2 := Lib.hid (H1.out.below hB2)
    clear hB2 c0 d0 d1 d2 d3 d4 d5
    go_wp2_with fail
    go_ret
    exact ⟨by rw [q.out]; rfl, H2.out.b⟩
  have t1 := Lib.hid (tr_yes h1)
  have P1 := Lib.hid h1
  clear h1
  go_wp2_with fail
  refine C1.out.mono ?_
  rintro e w2 ⟨rfl, hB2⟩
  rw [t1.out]
  have H2 := Lib.hid (H1.out.below hB2)
  clear hB2 c0 d0 d1 d2 d3 d4 d5 C1
  obtain ⟨c0, -, -, -, -⟩ := five H2.out.s
  obtain ⟨-, -, -, -, d4, d5⟩ := Gb.six H2.out.x
  by_cases h2 : cn = n
  case neg =>
    have q1 : ((cn : Int) != (n : Int)) = true := by simp; omega
    have q := Lib.hid (Hno.out fun z => h2 (by have := z.num; rw [HX.out.eq, Wd.cols_len] at this; have := Hn.out; have := Hcn.out; omega))
    clear h2
    go_wp2_with fail
    go_ret
    exact ⟨by rw [q.out]; rfl, H2.out.b⟩
  have q1 : ((cn : Int) != (n : Int)) = false := by simp; omega
  have P2 := Lib.hid h2
  clear h2
  by_cases h3 : 4096 < on
  · have q2 : (4096 : Int) < (on : Int) := by omega
    have q2' : decide ((4096 : Int) < (on : Int)) = true := decide_eq_true q2
    have q := Lib.hid (Hno.out fun z => by have := z.len; have := Hon.out; omega)
    go_wp2_with fail
    go_ret
    exact ⟨by rw [q.out]; rfl, H2.out.b⟩
  have q2 : ¬ (4096 : Int) < (on : Int) := by omega
  have q2' : decide ((4096 : Int) < (on : Int)) = false := decide_eq_false q2
  go_wp2_with fail
  clear q1 q2 q2' c0 d4 d5
  go_loopw [6] (fun i wr => ∃ k : Nat, i = .int .i64 k ∧ k ≤ cn ∧ Hid ((∀ j, j < k → (os.getD j default).C.n = (on : Int) ∧ Co.Valid (os.getD j default).C) ∧ Bm w wr A n c s OA on oc CA cn cc x)) (fun i _ => cn - (intOf i).toNat)
  case atStart => exact ⟨0, rfl, Nat.zero_le _, Lib.hid ⟨fun j hj => by omega, H2.out⟩⟩
  case round =>
    obtain ⟨k, rfl, hk, hI⟩ := hrel
    obtain ⟨-, -, -, -, d4, d5⟩ := Gb.six hI.out.2.x
    by_cases hltk : k < cn
    · have hkI : (k : Int) < (cn : Int) := by omega
      have hko : k < os.length := by rw [← Hcn.out]; exact hltk
      obtain ⟨b, f, hA, _, c0, c1, c2, h1⟩ := (HX.out.cols.below hI.out.2.b).cells hko rfl
      subst hA
      have hsz := Hlt.out k hko
      obtain ⟨o, ho⟩ : ∃ o, o = os.getD k default := ⟨_, rfl⟩
      rw [← ho] at c0 c1 c2 h1 hsz
      have hbad := fun (h : ¬ (o.C.n = (on : Int) ∧ Co.Valid o.C)) => Hno.out fun z => h (by
        have := z.cols o.C (by
          rw [HX.out.eq, ho]
          unfold Wd.cols
          refine List.mem_map.2 ⟨os.getD k default, ?_, rfl⟩
          rw [List.getD_eq_getElem?_getD, List.getElem?_eq_getElem hko]
          exact List.getElem_mem hko)
        rw [← Hon.out] at this
        exact this)
      have Ci := Lib.hid (Cx.refIds_any o.A o.n o.c o.B o.m o.d o.C wr h1 (by have := hsz.1; omega) hsz.2)
      have C0 := Lib.hid c0
      have Ho := Lib.hid ho
      have Hbad := Lib.hid hbad
      have HI := Lib.hid hI.out
      clear h1 hsz ho hko hbad hI
      go_wp2_with fail
      refine Ci.out.mono ?_
      rintro e w3 ⟨A3, n3, c3, rfl, hL3, hB3⟩
      have H3 := Lib.hid (HI.out.2.below hB3)
      have e0 := Lib.hid ((hB3.cell (World.block_lt_of_cell? wr _ C0.out)).trans C0.out)
      clear hL3 hB3 d4 d5 c0 c1 c2 Ci
      obtain ⟨-, -, -, -, d4, d5⟩ := Gb.six H3.out.x
      have c0 := e0.out
      by_cases q2 : Co.Valid o.C
      case neg =>
        have t6 := Lib.hid (Hbad.out fun z => q2 z.2)
        rw [tr_no q2]
        clear q2 HI
        go_wp2_with fail
        go_quiet (fail)
        go_wp2_with fail
        go_ret
        exact ⟨by rw [t6.out]; rfl, Wd.below_drewN H3.out.b _⟩
      rw [tr_yes q2]
      have Q2 := Lib.hid q2
      clear q2
      by_cases q1 : o.C.n = (on : Int)
      case neg =>
        have t5 : (o.C.n != (on : Int)) = true := by simpa using q1
        have t6 := Lib.hid (Hbad.out fun z => q1 z.1)
        clear q1 HI
        go_wp2_with fail
        go_quiet (fail)
        go_wp2_with fail
        go_ret
        exact ⟨by rw [t6.out]; rfl, Wd.below_drewN H3.out.b _⟩
      have t5 : (o.C.n != (on : Int)) = false := by simpa using q1
      have Q1 := Lib.hid q1
      clear q1
      have I3 := Lib.hid (show (∀ j, j < k + 1 → (os.getD j default).C.n = (on : Int) ∧ Co.Valid (os.getD j default).C) from fun j hj => by
        by_cases z : j = k
        · rw [z, ← Ho.out]; exact ⟨Q1.out, Q2.out⟩
        · exact HI.out.1 j (by omega))
      clear HI
      go_wp2_with fail
      go_quiet (fail)
      go_wp2_with fail
      go_roundw
      case rel => exact ⟨k + 1, by go_num, by omega, Lib.hid ⟨I3.out, H3.out.below (Wd.below_drewN (Below.refl _ _) _)⟩⟩
      case measure => simp [intOf]; omega
    · have hkI : ¬ (k : Int) < (cn : Int) := by omega
      have P3 := Lib.hid (show ColsOk s x from ⟨by rw [HX.out.eq, Wd.cols_len]; have := Hn.out; have := Hcn.out; have := P2.out; omega, by have := Hon.out; omega, fun c hc => by
        rw [HX.out.eq] at hc
        obtain ⟨o, ho, rfl⟩ := List.mem_map.1 hc
        obtain ⟨j, hj, rfl⟩ := List.getElem_of_mem ho
        have := hI.out.1 j (by have := Hcn.out; omega)
        rw [← Hon.out]
        simpa [List.getD, List.getElem?_eq_getElem hj] using this⟩)
      have H3 := Lib.hid hI.out.2
      clear hI d4
      go_upto_region 10 with fail
      obtain ⟨d0, d1, d2, d3, d4, -⟩ := Gb.six H3.out.x
      have Cr := Lib.hid (refRows_any OA on oc CA cn cc os x wr (HX.out.below H3.out.b) Hlt.out hcn hon)
      go_wp2_with fail
      refine Cr.out.mono ?_
      rintro e w4 ⟨RA, rn, rc, rfl, hL4, hB4⟩
      have hrn : rn = on := by rw [hL4.len, rows_len]; exact Hon.out.symm
      subst hrn
      have H4 := Lib.hid (H3.out.below hB4)
      have Cf := Lib.hid (refFit_any A n c s RA rn rc (rows x) w4 (HS.out.below H4.out.b) hL4 hn hon)
      have HL4 := Lib.hid hL4
      have hrcap := hL4.cap
      have hrmax := hL4.max
      unfold maxLen at hrmax
      clear hL4 hB4 d0 d1 d2 d3 d4 d5 Cr
      obtain ⟨c0, c1, c2, c3, c4⟩ := five H4.out.s
      by_cases h4 : Fit s (rows x)
      case neg =>
        have t1 := Lib.hid (tr_no h4)
        have q := Lib.hid (Hno.out fun z => h4 z.fit)
        clear h4
        go_wp2_with fail
        refine Cf.out.mono ?_
        rintro e w5 ⟨rfl, hB5⟩
        rw [t1.out]
        have H5 := Lib.hid (H4.out.below hB5)
        clear hB5 Cf c0 c1 c2 c3 c4
        go_wp2_with fail
        go_ret
        exact ⟨by rw [q.out]; rfl, H5.out.b⟩
      have t4 := Lib.hid (tr_yes h4)
      have P4 := Lib.hid h4
      clear h4
      go_wp2_with fail
      refine Cf.out.mono ?_
      rintro e w5 ⟨rfl, hB5⟩
      rw [t4.out]
      have H5 := Lib.hid (H4.out.below hB5)
      have HL5 := Lib.hid (HL4.out.below hB5)
      clear hB5 Cf c0 c1 c2 c3 c4
      go_wp2_with fail
      go_loopw [11] (fun i wr => ∃ k : Nat, i = .int .i64 k ∧ k ≤ rn ∧ Hid (Upto s x k ∧ Bm w wr A n c s OA rn oc CA cn cc x ∧ Below w5.heap.size w5 wr)) (fun i _ => rn - (intOf i).toNat)
      case atStart => exact ⟨0, rfl, Nat.zero_le _, Lib.hid ⟨upto_zero s x, H5.out, Below.refl _ _⟩⟩
      case round =>
        obtain ⟨k, rfl, hk, hI⟩ := hrel
        by_cases hltk : k < rn
        · have hkI : (k : Int) < (rn : Int) := by omega
          have hko : k < x.offs.length := by rw [← Hon.out]; exact hltk
          obtain ⟨-, -, d2, d3, d4, -⟩ := Gb.six hI.out.2.1.x
          obtain ⟨ob, of, hO, _, o1⟩ := (HX.out.offs.below hI.out.2.1.b).rd k hko
          subst hO
          have hat := fun (z : Ok s x) => z.at_ hko
          obtain ⟨y, hy⟩ : ∃ y, y = x.offs.getD k 0 := ⟨_, rfl⟩
          rw [← hy] at o1 hat
          have Hy := Lib.hid hy
          have Hat := Lib.hid hat
          have HI := Lib.hid hI.out
          have Hko := Lib.hid hko
          clear hat hI hy hko
          by_cases r1 : y < x.st
          · have e1 : decide (y < x.st) = true := decide_eq_true r1
            have q := Lib.hid (Hno.out fun z => by have := (Hat.out z).1.1; omega)
            clear r1
            go_wp2_with fail
            go_quiet (fail)
            go_wp2_with fail
            go_ret
            exact ⟨by rw [q.out]; rfl, Wd.below_drewN HI.out.2.1.b _⟩
          have e1 : decide (y < x.st) = false := decide_eq_false r1
          by_cases r2 : x.en ≤ y
          · have e2 : decide (x.en ≤ y) = true := decide_eq_true r2
            have q := Lib.hid (Hno.out fun z => by have := (Hat.out z).1.2; omega)
            have R1 := Lib.hid r1
            clear r1 r2
            go_wp2_with fail
            go_quiet (fail)
            go_wp2_with fail
            go_ret
            exact ⟨by rw [q.out]; rfl, Wd.below_drewN HI.out.2.1.b _⟩
          have e2 : decide (x.en ≤ y) = false := decide_eq_false r2
          have R1 := Lib.hid (show x.st ≤ y ∧ y < x.en by omega)
          clear r1 r2
          go_wp2_with fail
          go_quiet (fail)
          have B6 := Lib.hid (HI.out.2.1.below (Wd.below_drewN (Below.refl _ _) nq))
          have L6 := Lib.hid (Wd.below_drewN HI.out.2.2 nq)
          have U6 := Lib.hid HI.out.1
          obtain ⟨w6, hw6⟩ : ∃ w6, w6 = wr.drewN nq := ⟨_, rfl⟩
          rw [← hw6] at B6 L6 ⊢
          clear hw6 HI e1 e2 d2 d3 d4 o1
          go_wp2_with fail
          go_loopw [12] (fun i wr => ∃ q : Nat, i = .int .i64 q ∧ q ≤ k ∧ Hid ((∀ j, j < q → x.offs.getD j 0 ≠ y) ∧ Below w6.heap.size w6 wr)) (fun i _ => k - (intOf i).toNat)
          case atStart => exact ⟨0, rfl, Nat.zero_le _, Lib.hid ⟨fun j hj => by omega, Below.refl _ _⟩⟩
          case round =>
            obtain ⟨q, rfl, hq, hJ⟩ := hrel
            have B7 := Lib.hid (B6.out.below hJ.out.2)
            by_cases hltq : q < k
            · have hqI : (q : Int) < (k : Int) := by omega
              have hqr : (q : Int) < (rn : Int) := by omega
              obtain ⟨-, -, -, -, d4, -⟩ := Gb.six B7.out.x
              obtain ⟨_, _, e1, _, o1⟩ := (HX.out.offs.below B7.out.b).rd k (by have := Hon.out; omega)
              cases e1
              obtain ⟨_, _, e2, _, o2⟩ := (HX.out.offs.below B7.out.b).rd q (by have := Hon.out; omega)
              cases e2
              rw [← Hy.out] at o1
              obtain ⟨z, hz⟩ : ∃ z, z = x.offs.getD q 0 := ⟨_, rfl⟩
              rw [← hz] at o2
              have Hz := Lib.hid hz
              have HJ := Lib.hid hJ.out
              clear hz hJ
              by_cases e : z = y
              · have t : (z == y) = true := by simpa using e
                have g := Lib.hid (Hno.out fun v => (Hat.out v).2 q hltq (by rw [← Hz.out]; exact e))
                clear e
                go_wp2_with fail
                go_quiet (fail)
                go_wp2_with fail
                go_ret
                exact ⟨by rw [g.out]; rfl, Wd.below_drewN B7.out.b _⟩
              · have t : (z == y) = false := by simpa using e
                have J8 := Lib.hid (show (∀ j, j < q + 1 → x.offs.getD j 0 ≠ y) from fun j hj => by
                  by_cases v : j = q
                  · rw [v, ← Hz.out]; exact e
                  · exact HJ.out.1 j (by omega))
                clear e
                go_wp2_with fail
                go_quiet (fail)
                go_wp2_with fail
                go_roundw
                case rel => exact ⟨q + 1, by go_num, by omega, Lib.hid ⟨J8.out, Wd.below_drewN HJ.out.2 _⟩⟩
                case measure => simp [intOf]; omega
            · obtain rfl : q = k := by omega
              have hqI : ¬ (q : Int) < (q : Int) := by omega
              have Un := Lib.hid (fun h3 => (show Upto s x (q + 1) from upto_next U6.out (by rw [← Hy.out]; exact R1.out) (by rw [← Hy.out]; exact hJ.out.1) h3))
              have L7 := Lib.hid (L6.out.trans (hJ.out.2.mono L6.out.size))
              clear hJ
              by_cases k0 : q = 0
              · subst k0
                have U8 := Lib.hid (Un.out fun h => by omega)
                go_wp2_with fail
                go_roundw
                case rel => exact ⟨1, by go_num, by omega, Lib.hid ⟨U8.out, B7.out, L7.out⟩⟩
                case measure => simp [intOf]; omega
              · have hk0 : ((q : Int) == 0) = false := by simpa using k0
                obtain ⟨kp, hkp⟩ : ∃ z, z + 1 = q := ⟨q - 1, by omega⟩
                have zk : (q : Int) - 1 = (kp : Int) := by omega
                have rk : IntKind.i64.wrap (kp : Int) = (kp : Int) := by rw [IntKind.wrap_i64]; omega
                have kpI : (kp : Int) < (rn : Int) := by omega
                have hlen : (rows x).length = rn := by rw [rows_len]; exact Hon.out.symm
                obtain ⟨rb, rf, A1, n1, c1, hA, _, r0, hV1⟩ := (HL5.out.below L7.out).at_ kp (by omega)
                obtain ⟨_, _, A2, n2, c2, hA', _, r1, hV2⟩ := (HL5.out.below L7.out).at_ q (by omega)
                subst hA
                cases hA'
                have gm : ∀ j, j < rn → FitS s ((rows x).getD j []) := fun j hj => P4.out.2 _ (by
                  rw [List.getD_eq_getElem?_getD, List.getElem?_eq_getElem (by omega)]
                  exact List.getElem_mem _)
                obtain ⟨a, ha⟩ : ∃ a, a = (rows x).getD kp [] := ⟨_, rfl⟩
                obtain ⟨b, hb⟩ : ∃ b, b = (rows x).getD q [] := ⟨_, rfl⟩
                have g1 := gm kp (by omega)
                have g2 := gm q hltk
                have hnb := nb_cm (s := s) (x := x) (k := q) (a := a) (b := b) (by rw [ha, show q - 1 = kp by omega]) hb.symm
                rw [show q - 1 = kp by omega] at hnb
                rw [← ha] at hV1 g1
                rw [← hb] at hV2 g2
                obtain ⟨v1, hv1⟩ : ∃ v1, v1 = tr (0 < cm s a b) := ⟨_, rfl⟩
                obtain ⟨v2, hv2⟩ : ∃ v2, v2 = tr (0 < cm s b a) := ⟨_, rfl⟩
                obtain ⟨wv, hwv⟩ : ∃ wv, wv = wr := ⟨_, rfl⟩
                subst hwv
                have Ca := Lib.hid (fun W (hb : Below wv.heap.size wv W) => after_any A n c s A1 n1 c1 a A2 n2 c2 b W (hV1.below hb) (hV2.below hb) (srt_of g1) (srt_of g2) (fit_size g1))
                have Cb := Lib.hid (fun W (hb : Below wv.heap.size wv W) => after_any A n c s A2 n2 c2 b A1 n1 c1 a W (hV2.below hb) (hV1.below hb) (srt_of g2) (srt_of g1) (fit_size g2))
                rw [← hv1] at Ca
                rw [← hv2] at Cb
                have Hv1 := Lib.hid hv1
                have Hv2 := Lib.hid hv2
                have Hnb := Lib.hid hnb
                have bk : ∀ {W : World} {a : Addr} {v : Value}, Below wv.heap.size wv W → wv.cell? a = some v → W.cell? a = some v := fun {W a v} hb hc => (hb.cell (World.block_lt_of_cell? wv a hc)).trans hc
                have sb := five B7.out.s
                have ZZ := Lib.hid (fun (W : World) (hb : Below wv.heap.size wv W) => (show W.cell? ⟨w.heap.size, 0, none⟩ = some (.slice A n c) ∧ W.cell? ⟨w.heap.size, 1, none⟩ = some (.int .i64 s.key) ∧ W.cell? ⟨w.heap.size, 2, none⟩ = some (.int .i64 s.cmp) ∧ W.cell? ⟨w.heap.size, 3, none⟩ = some (.int .i64 s.del) ∧ W.cell? ⟨w.heap.size, 4, none⟩ = some (.int .i64 s.sort) ∧ W.cell? ⟨rb, rf + kp, none⟩ = some (.slice A1 n1 c1) ∧ W.cell? ⟨rb, rf + q, none⟩ = some (.slice A2 n2 c2) from
                  ⟨bk hb sb.1, bk hb sb.2.1, bk hb sb.2.2.1, bk hb sb.2.2.2.1, bk hb sb.2.2.2.2, bk hb r0, bk hb r1⟩))
                have M0 := Lib.hid (Below.refl wv.heap.size wv)
                clear hV1 hV2 g1 g2 ha hb hv1 hv2 hnb bk sb r0 r1 gm hlen
                go_upto_region 25 with fail
                go_cut [13] (fun v wz => v = .bool v1 ∧ Below wv.heap.size wv wz)
                case first =>
                  have hb := M0.out.drew
                  have z10 := ZZ.out _ hb
                  go_region_held3 (fun W => W.cell? ⟨w.heap.size, 0, none⟩ = some (.slice A n c) ∧ W.cell? ⟨w.heap.size, 1, none⟩ = some (.int .i64 s.key) ∧ W.cell? ⟨w.heap.size, 2, none⟩ = some (.int .i64 s.cmp) ∧ W.cell? ⟨w.heap.size, 3, none⟩ = some (.int .i64 s.del) ∧ W.cell? ⟨w.heap.size, 4, none⟩ = some (.int .i64 s.sort) ∧ W.cell? ⟨rb, rf + kp, none⟩ = some (.slice A1 n1 c1) ∧ W.cell? ⟨rb, rf + q, none⟩ = some (.slice A2 n2 c2)) (with_reducible first | exact z10) (first
                    | (go_at_call 56; (with_reducible refine (Ca.out _ hb).mono ?_); rintro e w9 ⟨rfl, hB9⟩; have hb := hb.trans (hB9.mono hb.size); have z10 := ZZ.out _ hb))
                  all_goals (
                    go_wp2_with fail
                    go_meet
                    exact ⟨rfl, hb⟩)
                case rest =>
                obtain ⟨rfl, hbc⟩ := hcut
                have M1 := Lib.hid hbc
                clear hbc
                go_upto_region 26 with fail
                go_cut [14] (fun v wz => v = .bool v2 ∧ Below wv.heap.size wv wz)
                case first =>
                  have hb := M1.out.drew
                  have z10 := ZZ.out _ hb
                  go_region_held3 (fun W => W.cell? ⟨w.heap.size, 0, none⟩ = some (.slice A n c) ∧ W.cell? ⟨w.heap.size, 1, none⟩ = some (.int .i64 s.key) ∧ W.cell? ⟨w.heap.size, 2, none⟩ = some (.int .i64 s.cmp) ∧ W.cell? ⟨w.heap.size, 3, none⟩ = some (.int .i64 s.del) ∧ W.cell? ⟨w.heap.size, 4, none⟩ = some (.int .i64 s.sort) ∧ W.cell? ⟨rb, rf + kp, none⟩ = some (.slice A1 n1 c1) ∧ W.cell? ⟨rb, rf + q, none⟩ = some (.slice A2 n2 c2)) (with_reducible first | exact z10) (first
                    | (go_at_call 56; (with_reducible refine (Cb.out _ hb).mono ?_); rintro e w9 ⟨rfl, hB9⟩; have hb := hb.trans (hB9.mono hb.size); have z10 := ZZ.out _ hb))
                  all_goals (
                    go_wp2_with fail
                    go_meet
                    exact ⟨rfl, hb⟩)
                case rest =>
                obtain ⟨rfl, hbc⟩ := hcut
                have M2 := Lib.hid hbc
                clear hbc
                have B8 := Lib.hid (B7.out.below M2.out)
                obtain ⟨-, -, -, -, d4, -⟩ := Gb.six B8.out.x
                obtain ⟨_, _, e1, _, o1⟩ := (HX.out.offs.below B8.out.b).rd q (by have := Hon.out; omega)
                cases e1
                obtain ⟨_, _, e2, _, o2⟩ := (HX.out.offs.below B8.out.b).rd kp (by have := Hon.out; omega)
                cases e2
                obtain ⟨y0, hy0⟩ : ∃ y0, y0 = x.offs.getD kp 0 := ⟨_, rfl⟩
                rw [← Hy.out] at o1 Hnb
                rw [← hy0] at o2 Hnb
                clear Ca Cb ZZ hy0
                cases v1
                case true =>
                  have g := Lib.hid (Hno.out fun v => (Hnb.out.1 (v.nb q (by omega) (by have := Hon.out; omega))).1 ((tr_iff (p := 0 < cm s a b)).1 Hv1.out.symm))
                  go_wp2_with fail
                  go_quiet (fail)
                  go_wp2_with fail
                  go_ret
                  exact ⟨by rw [g.out]; rfl, Wd.below_drewN B8.out.b _⟩
                case false =>
                  have nn := Lib.hid (show ¬ 0 < cm s a b from fun z => by have := Hv1.out; rw [tr_yes z] at this; cases this)
                  cases v2
                  case true =>
                    have U9 := Lib.hid (Un.out fun _ => Hnb.out.2 ⟨nn.out, .inl ((tr_iff (p := 0 < cm s b a)).1 Hv2.out.symm)⟩)
                    go_wp2_with fail
                    go_quiet (fail)
                    go_wp2_with fail
                    go_roundw
                    case rel => exact ⟨q + 1, by go_num, by omega, Lib.hid ⟨U9.out, B8.out.below (Wd.below_drewN (Below.refl _ _) _), Wd.below_drewN (L7.out.trans (M2.out.mono L7.out.size)) _⟩⟩
                    case measure => simp [intOf]; omega
                  case false =>
                    by_cases hy1 : y ≤ y0
                    · have e3 : decide (y ≤ y0) = true := decide_eq_true hy1
                      have g := Lib.hid (Hno.out fun v => by
                        rcases (Hnb.out.1 (v.nb q (by omega) (by have := Hon.out; omega))).2 with z | z
                        · have := Hv2.out
                          rw [tr_yes z] at this
                          cases this
                        · omega)
                      clear hy1
                      go_wp2_with fail
                      go_quiet (fail)
                      go_wp2_with fail
                      go_ret
                      exact ⟨by rw [g.out]; rfl, Wd.below_drewN B8.out.b _⟩
                    · have e3 : decide (y ≤ y0) = false := decide_eq_false hy1
                      have U9 := Lib.hid (Un.out fun _ => Hnb.out.2 ⟨nn.out, .inr (by omega)⟩)
                      clear hy1
                      go_wp2_with fail
                      go_quiet (fail)
                      go_wp2_with fail
                      go_roundw
                      case rel => exact ⟨q + 1, by go_num, by omega, Lib.hid ⟨U9.out, B8.out.below (Wd.below_drewN (Below.refl _ _) _), Wd.below_drewN (L7.out.trans (M2.out.mono L7.out.size)) _⟩⟩
                      case measure => simp [intOf]; omega
        · obtain rfl : k = rn := by omega
          have hkI : ¬ (k : Int) < (k : Int) := by omega
          have g := Lib.hid (Hyes.out (ok_upto P1.out P3.out P4.out (by rw [← Hon.out]; exact hI.out.1)))
          have H9 := Lib.hid hI.out.2.1.b
          clear hI
          go_wp2_with fail
          go_ret
          exact ⟨by rw [g.out]; rfl, H9.out⟩
end Se
end Go.Proofs.YtaoeipehpakngaaGreatDoor
