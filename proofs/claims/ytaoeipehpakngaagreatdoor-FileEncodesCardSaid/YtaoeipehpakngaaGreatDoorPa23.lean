/- The reference of layer 12: Head, Fit, Light, Same. What the reference of layer 10 does: Ids. -/
import Derived.Deep.RegionHeld3
import Derived.Deep.DeepCutAuto
import Derived.Lib.Hide
import Derived.StillTailTactics
import Derived.BigQuiet
import Derived.Deep.QuietTactic
import Derived.Test.YtaoeipehpakngaaGreatDoorPa21
import Derived.Test.YtaoeipehpakngaaGreatDoorPa22
import Derived.Test.YtaoeipehpakngaaGreatDoorPa14
import Derived.Test.YtaoeipehpakngaaGreatDoorPa06
import Derived.Test.YtaoeipehpakngaaGreatDoorPa19
import Derived.Test.YtaoeipehpakngaaGreatDoorPa13
namespace Go.Proofs.YtaoeipehpakngaaGreatDoor
set_option maxRecDepth 20000
open Go.RowKit
namespace Se
open Va (Vl)
open Sc (Sch MayS FitS tr tr_yes tr_no tr_iff tr_congr)
open Sx (Sb five)
open Wd (Cr)
set_option maxHeartbeats 2000000 in
theorem refHead_any (OA : Option Addr) (on oc : Nat) (CA : Option Addr) (cn cc : Nat) (x : Seg) (w : World) :
    Calls Tryz.prog 33 #[.agg #[.int .i64 x.part, .int .i64 x.id, .int .i64 x.st, .int .i64 x.en, .slice OA on oc, .slice CA cn cc]] w fun e w' => e = .returned (.bool (tr (Head x))) ∧ Below w.heap.size w w' := by
  have hb0 := (Below.refl w.heap.size w).alloc (Nat.le_refl _) (.cells #[.int .i64 x.part, .int .i64 x.id, .int .i64 x.st, .int .i64 x.en, .slice OA on oc, .slice CA cn cc] 28)
  obtain ⟨d0, d1, d2, d3, -, -⟩ := Gb.six (Gb.new w x.part x.id x.st x.en OA on oc CA cn cc)
  obtain ⟨r, hr⟩ : ∃ r, r = tr (Head x) := ⟨_, rfl⟩
  rw [← hr]
  have Hno := Lib.hid (fun (h : ¬ Head x) => (by rw [hr]; exact tr_no h : r = false))
  have Hyes := Lib.hid (fun (h : Head x) => (by rw [hr]; exact tr_yes h : r = true))
  clear hr
  by_cases h0 : 0 ≤ x.part
  case neg =>
    have q := Lib.hid (Hno.out fun z => h0 z.1)
    go_enter Tryz.func33, Tryz.ntmps33
    go_wp2_with fail
    go_ret
    exact ⟨by rw [q.out]; rfl, hb0⟩
  by_cases h1 : x.part < 4
  case neg =>
    have q := Lib.hid (Hno.out fun z => h1 z.2.1)
    go_enter Tryz.func33, Tryz.ntmps33
    go_wp2_with fail
    go_ret
    exact ⟨by rw [q.out]; rfl, hb0⟩
  by_cases h2 : 1 ≤ x.id
  case neg =>
    have q := Lib.hid (Hno.out fun z => h2 z.2.2.1)
    go_enter Tryz.func33, Tryz.ntmps33
    go_wp2_with fail
    go_ret
    exact ⟨by rw [q.out]; rfl, hb0⟩
  by_cases h3 : x.id ≤ 1073741824
  case neg =>
    have q := Lib.hid (Hno.out fun z => h3 z.2.2.2.1)
    go_enter Tryz.func33, Tryz.ntmps33
    go_wp2_with fail
    go_ret
    exact ⟨by rw [q.out]; rfl, hb0⟩
  by_cases h4 : 0 ≤ x.st
  case neg =>
    have q := Lib.hid (Hno.out fun z => h4 z.2.2.2.2.1)
    go_enter Tryz.func33, Tryz.ntmps33
    go_wp2_with fail
    go_ret
    exact ⟨by rw [q.out]; rfl, hb0⟩
  by_cases h5 : x.st ≤ x.en
  case neg =>
    have q := Lib.hid (Hno.out fun z => h5 z.2.2.2.2.2.1)
    go_enter Tryz.func33, Tryz.ntmps33
    go_wp2_with fail
    go_ret
    exact ⟨by rw [q.out]; rfl, hb0⟩
  by_cases h6 : x.en ≤ 1099511627776
  case neg =>
    have q := Lib.hid (Hno.out fun z => h6 z.2.2.2.2.2.2)
    go_enter Tryz.func33, Tryz.ntmps33
    go_wp2_with fail
    go_ret
    exact ⟨by rw [q.out]; rfl, hb0⟩
  have q := Lib.hid (Hyes.out ⟨h0, h1, h2, h3, h4, h5, h6⟩)
  go_enter Tryz.func33, Tryz.ntmps33
  go_wp2_with fail
  go_ret
  exact ⟨by rw [q.out]; rfl, hb0⟩
set_option maxHeartbeats 4000000 in
theorem refFit_any (A : Option Addr) (n c : Nat) (s : Sch) (R : Option Addr) (m d : Nat) (l : List (List Vl)) (w : World) (hS : Wd.Cs w A n c s.cols) (hL : Wd.Ls w R m d l) (hn : n ≤ 1000000) (hm : m ≤ 1000000) :
    Calls Tryz.prog 32 #[.agg #[.slice A n c, .int .i64 s.key, .int .i64 s.cmp, .int .i64 s.del, .int .i64 s.sort], .slice R m d] w fun e w' => e = .returned (.bool (tr (Fit s l))) ∧ Below w.heap.size w w' := by
  have hb0 := (Below.refl w.heap.size w).alloc (Nat.le_refl _) (.cells #[.slice A n c, .int .i64 s.key, .int .i64 s.cmp, .int .i64 s.del, .int .i64 s.sort] 24)
  have s0 : Sb (w.alloc (.cells #[.slice A n c, .int .i64 s.key, .int .i64 s.cmp, .int .i64 s.del, .int .i64 s.sort] 24)) w.heap.size A n c s.key s.cmp s.del s.sort := Wd.Bx.new w _ _
  have Cm := Lib.hid (Sx.refMayS_any A n c s _ (hS.below hb0) hn)
  have HS := Lib.hid hS
  have HL := Lib.hid hL
  have Hl := Lib.hid hL.len
  have hcap := hL.cap
  have hmax := hL.max
  unfold maxLen at hmax
  have HB := Lib.hid s0
  have Hb0 := Lib.hid hb0
  obtain ⟨c0, c1, c2, c3, c4⟩ := five s0
  obtain ⟨r, hr⟩ : ∃ r, r = tr (Fit s l) := ⟨_, rfl⟩
  rw [← hr]
  have Hno := Lib.hid (fun (h : ¬ Fit s l) => (by rw [hr]; exact tr_no h : r = false))
  have Hyes := Lib.hid (fun (h : Fit s l) => (by rw [hr]; exact tr_yes h : r = true))
  clear hr hb0 s0 hS hL
  go_enter Tryz.func32, Tryz.ntmps32
  by_cases hm1 : MayS s
  case neg =>
    have q1 := Lib.hid (tr_no hm1)
    have q2 := Lib.hid (Hno.out fun z => hm1 z.1)
    clear hm1
    go_wp2_with fail
    refine Cm.out.mono ?_
    rintro e w1 ⟨rfl, hB1⟩
    rw [q1.out]
    have Hb1 := Lib.hid (Hb0.out.trans (hB1.mono Hb0.out.size))
    clear hB1 Cm
    go_wp2_with fail
    go_ret
    exact ⟨by rw [q2.out]; rfl, Hb1.out⟩
  have q1 := Lib.hid (tr_yes hm1)
  have Hm1 := Lib.hid hm1
  clear hm1
  go_wp2_with fail
  refine Cm.out.mono ?_
  rintro e w1 ⟨rfl, hB1⟩
  rw [q1.out]
  have Hb1 := Lib.hid (Hb0.out.trans (hB1.mono Hb0.out.size))
  have HB1 := Lib.hid (HB.out.below HB.out.lt hB1)
  clear hB1 c0 c1 c2 c3 c4 Cm
  go_wp2_with fail
  go_loopw [6] (fun i wr => ∃ k : Nat, i = .int .i64 k ∧ k ≤ m ∧ Hid ((∀ j, j < k → FitS s (l.getD j [])) ∧ Below w1.heap.size w1 wr)) (fun i _ => m - (intOf i).toNat)
  case atStart => exact ⟨0, rfl, Nat.zero_le _, Lib.hid ⟨fun j hj => by omega, Below.refl _ _⟩⟩
  case round =>
    obtain ⟨k, rfl, hk, hI⟩ := hrel
    by_cases hlt : k < m
    · have hkI : (k : Int) < (m : Int) := by omega
      have hbw : Below w.heap.size w wr := Hb1.out.trans (hI.out.2.mono Hb1.out.size)
      obtain ⟨b, f, A1, n1, c1, hA, _, r0, hV1⟩ := (HL.out.below hbw).at_ k (by have := Hl.out; omega)
      subst hA
      have Cf := Lib.hid (fun W (hb : Below wr.heap.size wr W) => Sx.refFits_any A n c s A1 n1 c1 (l.getD k []) W (HS.out.below (hbw.trans (hb.mono hbw.size))) (hV1.below hb) hn)
      obtain ⟨fv, hfv⟩ : ∃ fv, fv = tr (FitS s (l.getD k [])) := ⟨_, rfl⟩
      rw [← hfv] at Cf
      have Hfv := Lib.hid hfv
      have SB := Lib.hid (HB1.out.below HB1.out.lt hI.out.2)
      have R0 := Lib.hid r0
      have hkl : k < l.length := by have := Hl.out; omega
      have Hkl := Lib.hid hkl
      have HI := Lib.hid hI.out
      have ZZ := Lib.hid (fun (W : World) (hb : Below wr.heap.size wr W) => (show W.cell? ⟨w.heap.size, 0, none⟩ = some (.slice A n c) ∧ W.cell? ⟨w.heap.size, 1, none⟩ = some (.int .i64 s.key) ∧ W.cell? ⟨w.heap.size, 2, none⟩ = some (.int .i64 s.cmp) ∧ W.cell? ⟨w.heap.size, 3, none⟩ = some (.int .i64 s.del) ∧ W.cell? ⟨w.heap.size, 4, none⟩ = some (.int .i64 s.sort) ∧ W.cell? ⟨b, f + k, none⟩ = some (.slice A1 n1 c1) from by
        obtain ⟨a0, a1, a2, a3, a4⟩ := five (SB.out.below SB.out.lt hb)
        exact ⟨a0, a1, a2, a3, a4, (hb.cell (World.block_lt_of_cell? wr _ R0.out)).trans R0.out⟩))
      clear hbw r0 hV1 hfv hkl hI
      go_upto_region 7 with fail
      go_cut [7] (fun v wz => v = .bool fv ∧ Below wr.heap.size wr wz)
      case first =>
        have hb : Below wr.heap.size wr wr.drew := (Below.refl _ _).drew
        have z10 := ZZ.out wr.drew hb
        go_region_held3 (fun W => W.cell? ⟨w.heap.size, 0, none⟩ = some (.slice A n c) ∧ W.cell? ⟨w.heap.size, 1, none⟩ = some (.int .i64 s.key) ∧ W.cell? ⟨w.heap.size, 2, none⟩ = some (.int .i64 s.cmp) ∧ W.cell? ⟨w.heap.size, 3, none⟩ = some (.int .i64 s.del) ∧ W.cell? ⟨w.heap.size, 4, none⟩ = some (.int .i64 s.sort) ∧ W.cell? ⟨b, f + k, none⟩ = some (.slice A1 n1 c1)) (with_reducible first | exact z10) (first
          | (go_at_call 69; (with_reducible refine (Cf.out _ hb).mono ?_); rintro e w5 ⟨rfl, hB5⟩; have hb := hb.trans (hB5.mono hb.size); have z10 := ZZ.out _ hb))
        all_goals (
          go_wp2_with fail
          go_meet
          exact ⟨rfl, hb⟩)
      case rest =>
        obtain ⟨rfl, hbc⟩ := hcut
        have Hb5 := Lib.hid (HI.out.2.trans (hbc.mono HI.out.2.size))
        clear hbc ZZ Cf
        by_cases hv : FitS s (l.getD k [])
        · obtain rfl : fv = true := by rw [Hfv.out]; exact tr_yes hv
          have I6 := Lib.hid (show (∀ j, j < k + 1 → FitS s (l.getD j [])) ∧ Below w1.heap.size w1 wc from ⟨fun j h1 => by
            by_cases z : j = k
            · rw [z]; exact hv
            · exact HI.out.1 j (by omega), Hb5.out⟩)
          clear HI hv
          go_wp2_with fail
          go_roundw
          case rel => exact ⟨k + 1, by go_num, by omega, I6⟩
          case measure => simp [intOf]; omega
        · obtain rfl : fv = false := by rw [Hfv.out]; exact tr_no hv
          have t2 := Lib.hid (Hno.out fun z => hv (z.2 _ (by
            rw [List.getD_eq_getElem?_getD, List.getElem?_eq_getElem Hkl.out]
            exact List.getElem_mem _)))
          clear HI hv
          go_wp2_with fail
          go_ret
          exact ⟨by rw [t2.out]; rfl, Hb1.out.trans (Hb5.out.mono Hb1.out.size)⟩
    · have hkI : ¬ (k : Int) < (m : Int) := by omega
      have t2 := Lib.hid (Hyes.out ⟨Hm1.out, fun r hr => by
        obtain ⟨j, hj, rfl⟩ := List.getElem_of_mem hr
        have := hI.out.1 j (by have := Hl.out; omega)
        simpa [List.getD, List.getElem?_eq_getElem hj] using this⟩)
      have H4 := Lib.hid (Hb1.out.trans (hI.out.2.mono Hb1.out.size))
      clear hI
      go_wp2_with fail
      go_ret
      exact ⟨by rw [t2.out]; rfl, H4.out⟩
def LightG (x : Seg) : Prop := x.offs.length ≤ 200 ∧ x.cols.length ≤ 12 ∧ ∀ c ∈ x.cols, Cx.LightC c
set_option maxHeartbeats 4000000 in
theorem refLight_any (OA : Option Addr) (on oc : Nat) (CA : Option Addr) (cn cc : Nat) (os : List Cr) (x : Seg) (w : World) (hX : Sg w OA on oc CA cn cc os x) :
    Calls Tryz.prog 8 #[.agg #[.int .i64 x.part, .int .i64 x.id, .int .i64 x.st, .int .i64 x.en, .slice OA on oc, .slice CA cn cc]] w fun e w' => e = .returned (.bool (tr (LightG x))) ∧ Below w.heap.size w w' := by
  have hb0 := (Below.refl w.heap.size w).alloc (Nat.le_refl _) (.cells #[.int .i64 x.part, .int .i64 x.id, .int .i64 x.st, .int .i64 x.en, .slice OA on oc, .slice CA cn cc] 28)
  have x0 := Gb.new w x.part x.id x.st x.en OA on oc CA cn cc
  obtain ⟨d0, d1, d2, d3, d4, d5⟩ := Gb.six x0
  have HX := Lib.hid hX
  have X0 := Lib.hid x0
  have Hb0 := Lib.hid hb0
  have Hcn := Lib.hid hX.cols.len
  have Hon := Lib.hid hX.offs.len
  obtain ⟨r, hr⟩ : ∃ r, r = tr (LightG x) := ⟨_, rfl⟩
  rw [← hr]
  have Hno := Lib.hid (fun (h : ¬ LightG x) => (by rw [hr]; exact tr_no h : r = false))
  have Hyes := Lib.hid (fun (h : LightG x) => (by rw [hr]; exact tr_yes h : r = true))
  clear hr hX x0 hb0 d0 d1 d2 d3
  go_enter Tryz.func8, Tryz.ntmps8
  by_cases h1 : 200 < on
  · have t1 : (200 : Int) < (on : Int) := by omega
    have t1' : decide ((200 : Int) < (on : Int)) = true := decide_eq_true t1
    have t2 := Lib.hid (Hno.out fun z => by have := z.1; have := Hon.out; omega)
    clear h1
    go_wp2_with fail
    go_ret
    exact ⟨by rw [t2.out]; rfl, Hb0.out⟩
  have t1 : ¬ (200 : Int) < (on : Int) := by omega
  have t1' : decide ((200 : Int) < (on : Int)) = false := decide_eq_false t1
  by_cases h2 : 12 < cn
  · have t3 : (12 : Int) < (cn : Int) := by omega
    have t3' : decide ((12 : Int) < (cn : Int)) = true := decide_eq_true t3
    have t2 := Lib.hid (Hno.out fun z => by have := z.2.1; rw [HX.out.eq, Wd.cols_len] at this; have := Hcn.out; omega)
    go_wp2_with fail
    go_ret
    exact ⟨by rw [t2.out]; rfl, Hb0.out⟩
  have t3 : ¬ (12 : Int) < (cn : Int) := by omega
  have t3' : decide ((12 : Int) < (cn : Int)) = false := decide_eq_false t3
  go_wp2_with fail
  obtain ⟨w1, hw1⟩ : ∃ w1, w1 = w.alloc (.cells #[.int .i64 x.part, .int .i64 x.id, .int .i64 x.st, .int .i64 x.en, .slice OA on oc, .slice CA cn cc] 28) := ⟨_, rfl⟩
  rw [← hw1] at X0 Hb0
  try rw [← hw1]
  clear hw1 d4 d5
  go_loopw [3] (fun i wr => ∃ k : Nat, i = .int .i64 k ∧ k ≤ cn ∧ Hid ((∀ j, j < k → Cx.LightC (os.getD j default).C) ∧ Below w1.heap.size w1 wr)) (fun i _ => cn - (intOf i).toNat)
  case atStart => exact ⟨0, rfl, Nat.zero_le _, Lib.hid ⟨fun j hj => by omega, Below.refl _ _⟩⟩
  case round =>
    obtain ⟨k, rfl, hk, hI⟩ := hrel
    have d5 := (Gb.six (X0.out.below X0.out.lt hI.out.2)).2.2.2.2.2
    by_cases hltk : k < cn
    · have hkI : (k : Int) < (cn : Int) := by omega
      have hbw : Below w.heap.size w wr := Hb0.out.trans (hI.out.2.mono Hb0.out.size)
      have hko : k < os.length := by rw [← Hcn.out]; exact hltk
      obtain ⟨b, f, hA, _, c0, c1, c2, hC⟩ := (HX.out.cols.below hbw).cells hko rfl
      have hcap := HX.out.cols.cap
      have hmax := HX.out.cols.max
      unfold maxLen at hmax
      subst hA
      obtain ⟨o, ho⟩ : ∃ o, o = os.getD k default := ⟨_, rfl⟩
      rw [← ho] at c0 c1 c2 hC
      have Cl := Lib.hid (Cx.Light_any o.A o.n o.c o.B o.m o.d o.C wr hC)
      have hbad := fun (h : ¬ Cx.LightC o.C) => Hno.out fun z => h (z.2.2 o.C (by
          rw [HX.out.eq, ho]
          unfold Wd.cols
          refine List.mem_map.2 ⟨os.getD k default, ?_, rfl⟩
          rw [List.getD_eq_getElem?_getD, List.getElem?_eq_getElem hko]
          exact List.getElem_mem hko))
      have Ho := Lib.hid ho
      have Hbad := Lib.hid hbad
      clear hbad ho hko hC hbw
      by_cases q2 : Cx.LightC o.C
      case neg =>
        have t6 := Lib.hid (Hbad.out q2)
        have t7 := Lib.hid (tr_no q2)
        clear q2
        go_wp2_with fail
        refine Cl.out.mono ?_
        rintro e w3 ⟨rfl, hB3⟩
        rw [t7.out]
        have H3 := Lib.hid (hI.out.2.trans (hB3.mono hI.out.2.size))
        clear hB3 Cl hI
        go_wp2_with fail
        go_ret
        exact ⟨by rw [t6.out]; rfl, Hb0.out.trans (H3.out.mono Hb0.out.size)⟩
      have t7 := Lib.hid (tr_yes q2)
      have Q2 := Lib.hid q2
      clear q2
      go_wp2_with fail
      refine Cl.out.mono ?_
      rintro e w3 ⟨rfl, hB3⟩
      rw [t7.out]
      have I3 := Lib.hid (show (∀ j, j < k + 1 → Cx.LightC (os.getD j default).C) ∧ Below w1.heap.size w1 w3 from ⟨fun j hj => by
        by_cases z : j = k
        · rw [z, ← Ho.out]; exact Q2.out
        · exact hI.out.1 j (by omega), hI.out.2.trans (hB3.mono hI.out.2.size)⟩)
      clear hB3 Cl hI d5 c0 c1 c2
      go_wp2_with fail
      go_roundw
      case rel => exact ⟨k + 1, by go_num, by omega, I3⟩
      case measure => simp [intOf]; omega
    · have hkI : ¬ (k : Int) < (cn : Int) := by omega
      have t6 := Lib.hid (Hyes.out ⟨by have := Hon.out; omega, by rw [HX.out.eq, Wd.cols_len]; have := Hcn.out; omega, fun c hc => by
        rw [HX.out.eq] at hc
        obtain ⟨o, ho, rfl⟩ := List.mem_map.1 hc
        obtain ⟨j, hj, rfl⟩ := List.getElem_of_mem ho
        have := hI.out.1 j (by have := Hcn.out; omega)
        simpa [List.getD, List.getElem?_eq_getElem hj] using this⟩)
      have H3 := Lib.hid (Hb0.out.trans (hI.out.2.mono Hb0.out.size))
      clear hI
      go_wp2_with fail
      go_ret
      exact ⟨by rw [t6.out]; rfl, H3.out⟩
end Se
namespace Cx
open Va (Vl May ord null)
open Sc (tr tr_yes tr_no tr_iff)
open Co
def Seen (l : List Int) (sb : List Bool) (n k : Nat) : Prop := sb.length = n ∧ ∀ j, j < n → sb.getD j false = decide ((j : Int) ∈ l.take k)
theorem seen_zero (l : List Int) (n : Nat) : Seen l (List.replicate n false) n 0 := ⟨by simp, fun j hj => by simp [List.getD, hj]⟩
theorem seen_next {l : List Int} {sb : List Bool} {n k p : Nat} (h : Seen l sb n k) (hk : k < l.length) (hp : l.getD k 0 = (p : Int)) (hpn : p < n) : Seen l (sb.set p true) n (k + 1) := by
  refine ⟨by simpa using h.1, fun j hj => ?_⟩
  have ht : l.take (k + 1) = l.take k ++ [(p : Int)] := by
    rw [List.take_succ_eq_append_getElem hk]
    rw [List.getD_eq_getElem?_getD, List.getElem?_eq_getElem hk, Option.getD_some] at hp
    rw [hp]
  rw [ht]
  by_cases e : p = j
  · subst e
    have : p < sb.length := by rw [h.1]; exact hpn
    simp [List.getD, this]
  · have h2 := h.2 j hj
    have : (sb.set p true).getD j false = sb.getD j false := by
      simp [List.getD, List.getElem?_set_ne e]
    rw [this, h2]
    refine decide_eq_decide.2 ?_
    rw [List.mem_append, List.mem_singleton]
    constructor
    · exact .inl
    · rintro (q | q)
      · exact q
      · omega
set_option maxHeartbeats 8000000 in
theorem refIds_any (A : Option Addr) (n c : Nat) (B : Option Addr) (m d : Nat) (C : Col) (w : World) (h : Cl w A n c B m d C) (hn : n ≤ 100000) (hm : m ≤ 1000000) :
    Calls Tryz.prog 54 #[.agg #[.int .i64 C.n, .slice A n c, .slice B m d]] w (OutB w (nums C) (tr (Valid C))) := by
  obtain ⟨i0, hi, hz0, hz1, hz2⟩ := info_parts info_b
  have hb0 := (Below.refl w.heap.size w).alloc (Nat.le_refl _) (.cells #[.int .i64 C.n, .slice A n c, .slice B m d] 57)
  have x0 := Cb.new w C.n A n c B m d
  have h1 := h.below hb0
  have hcap := h.dict.cap
  have hmx := h.dict.max
  have hcap2 := h.ids.cap
  have hmx2 := h.ids.max
  unfold maxLen at hmx hmx2
  have n0 := h.n0
  have n1 := h.n1
  have hnl : n = C.dict.length := h.dict.len
  have C1 := Lib.hid (Dx.refRises_any A n c C.dict _ h1.dict h1.str)
  have Cw := Lib.hid fun w => width_any n (by omega) w
  have Cu := Lib.hid fun w' (hb : Below w.heap.size w w') => Bc.refUn_any B m d C.n (wdt C.dict) C.ids w' (h.ids.below hb) h.byt hm
  have Hb0 := Lib.hid hb0
  have Hn := Lib.hid hnl
  obtain ⟨r, hr⟩ : ∃ r, r = tr (Valid C) := ⟨_, rfl⟩
  obtain ⟨L, hL⟩ : ∃ L, L = nums C := ⟨_, rfl⟩
  rw [← hr, ← hL]
  have Hr := Lib.hid hr
  have HL := Lib.hid hL
  obtain ⟨rs, hrs⟩ : ∃ rs, rs = tr (Dc.Ris C.dict) := ⟨_, rfl⟩
  rw [← hrs] at C1
  have Hrs := Lib.hid hrs
  obtain ⟨W, hW⟩ : ∃ W, W = wdt C.dict := ⟨_, rfl⟩
  have HW := Lib.hid hW
  have e3 : Bc.wid ((n : Int) - 1) = W := by rw [hW, hnl]; rfl
  rw [e3] at Cw
  rw [← hW] at Cu
  obtain ⟨N, hN⟩ : ∃ N, N = C.n := ⟨_, rfl⟩
  rw [← hN] at x0 C1 Cu Hb0 n0 n1 ⊢
  have HN := Lib.hid hN
  obtain ⟨E, hE⟩ : ∃ E, E = Bc.unE C.ids N W := ⟨_, rfl⟩
  obtain ⟨U, hU⟩ : ∃ U, U = Bc.unL C.ids N W := ⟨_, rfl⟩
  rw [← hE, ← hU] at Cu
  have HE := Lib.hid (show E = Bc.unE C.ids C.n (wdt C.dict) by rw [hE, hN, hW])
  have HU := Lib.hid (show U = un C by rw [hU, hN, hW]; rfl)
  clear hE hU
  have bad : ¬ Valid C → Hid (r = false ∧ L = []) := fun q => Lib.hid ⟨by rw [Hr.out, tr_no q], by rw [HL.out, nums_no q]⟩
  have Bad := Lib.hid bad
  clear h hb0 h1 hnl hr hL hrs hW e3 hN bad
  have c0 := x0.c0
  have c1 := x0.c1
  have c2 := x0.c2
  go_enter Tryz.func54, Tryz.ntmps54
  go_wp2_with fail
  refine C1.out.mono ?_
  rintro e w1 ⟨rfl, hB1⟩
  have y0 := x0.below (by simp) hB1
  have c0' := y0.c0
  have c1' := y0.c1
  have c2' := y0.c2
  have HB1 := Lib.hid (Hb0.out.trans (hB1.mono (by simp)))
  clear c0 c1 c2 x0 hB1
  by_cases hN0 : N < 0
  · have hq := (Bad.out fun q => by have := q.n0; have := HN.out; omega).out
    have hd0 : decide (N < 0) = true := decide_eq_true hN0
    have HQ := Lib.hid hq
    clear hq
    go_wp2_with fail
    go_ret2
    exact ⟨_, _, _, by rw [HQ.out.1]; rfl, by rw [HQ.out.2]; exact Wd.Sl.none_ _ _, HB1.out⟩
  have hd0 : decide (N < 0) = false := decide_eq_false hN0
  by_cases hN1 : 4096 < N
  · have hq := (Bad.out fun q => by have := q.n1; have := HN.out; omega).out
    have hd1 : decide (4096 < N) = true := decide_eq_true hN1
    have HQ := Lib.hid hq
    clear hq
    go_wp2_with fail
    go_ret2
    exact ⟨_, _, _, by rw [HQ.out.1]; rfl, by rw [HQ.out.2]; exact Wd.Sl.none_ _ _, HB1.out⟩
  have hd1 : decide (4096 < N) = false := decide_eq_false hN1
  cases rs with
  | false =>
    have hq := (Bad.out fun q => by have := Hrs.out; rw [tr_yes q.ris] at this; cases this).out
    have HQ := Lib.hid hq
    clear hq
    go_wp2_with fail
    go_ret2
    exact ⟨_, _, _, by rw [HQ.out.1]; rfl, by rw [HQ.out.2]; exact Wd.Sl.none_ _ _, HB1.out⟩
  | true =>
  have hris := Lib.hid (show Dc.Ris C.dict from tr_iff.1 Hrs.out.symm)
  have Cv := Lib.hid fun w => ((Cw.out w).mono fun e w' h => ⟨h.1, by rw [h.2]; exact Below.refl _ _⟩ : Calls Tryz.prog 74 #[.int .i64 (n : Int)] w fun e w' => e = .returned (.int .i64 (W : Int)) ∧ Below w.heap.size w w')
  have hsw : w.heap.size < w1.heap.size := y0.lt
  go_wp2_with fail
  have hb := (Below.refl w1.heap.size w1).drew
  have z10 : w1.drew.cell? ⟨w.heap.size, 0, none⟩ = some (.int .i64 N) ∧ w1.drew.cell? ⟨w.heap.size, 1, none⟩ = some (.slice A n c) ∧ w1.drew.cell? ⟨w.heap.size, 2, none⟩ = some (.slice B m d) := ⟨c0', c1', c2'⟩
  go_region_held3 (fun w' => w'.cell? ⟨w.heap.size, 0, none⟩ = some (.int .i64 N) ∧ w'.cell? ⟨w.heap.size, 1, none⟩ = some (.slice A n c) ∧ w'.cell? ⟨w.heap.size, 2, none⟩ = some (.slice B m d)) (with_reducible first | exact z10) (first
    | (go_at_call 74; (with_reducible refine (Cv.out _).mono ?_); rintro e wz ⟨rfl, hBz⟩; have hb := hb.trans (hBz.mono hb.size); have y9 := y0.below hsw hb; have z10 := And.intro y9.c0 (And.intro y9.c1 y9.c2))
    | (go_at_call 100; refine (Cu.out _ (HB1.out.trans (hb.mono HB1.out.size))).mono ?_; rintro e wz ⟨P, p, q, rfl, hSu, hBz⟩; have hb := hb.trans (hBz.mono hb.size); have y9 := y0.below hsw hb; have z10 := And.intro y9.c0 (And.intro y9.c1 y9.c2)))
  have HBz := Lib.hid (HB1.out.trans (hb.mono HB1.out.size))
  have c1'' := z10.2.1
  clear z10 c0' c1' c2' Cu Cv Cw C1 hBz hb
  by_cases hE0 : E = 0
  case neg =>
    have hq := (Bad.out fun q => hE0 (HE.out.trans q.un0)).out
    have hd2 : (E == 0) = false := by simpa using hE0
    have HQ := Lib.hid hq
    clear hq
    go_wp2_with fail
    go_ret2
    exact ⟨_, _, _, by rw [HQ.out.1]; rfl, by rw [HQ.out.2]; exact Wd.Sl.none_ _ _, HBz.out⟩
  subst hE0
  have hUl := hSu.len
  have hUc := hSu.cap
  have hUm := hSu.max
  unfold maxLen at hUm
  have HSu := Lib.hid hSu
  have HUl := Lib.hid hUl
  have hp1 : p ≤ 4096 := by
    have h1 := un_len HE.out.symm
    rw [← HU.out, ← HN.out, ← HUl.out] at h1
    omega
  have y9lt := y9.lt
  clear hSu hUl
  go_wp2_with (at_make; refine wpList_make_full _ rfl (.tmp 41) (.tmp 41) 138 rfl wz.heap.size 4 i0 _ 1 Tryz.underlying138 hi hz0 hz1 .i64 .i64 (n : Int) (n : Int) n rfl rfl rfl rfl (by rw [hz2]; omega) (by unfold maxLen; omega) (Nat.le_refl _) ?_; intro w3 hown hgrow; rw [made_false] at hown)
  obtain ⟨hR0, hg0, -⟩ := RowB.of_own hown
  have hB3 : Below wz.heap.size wz w3 := (Below.refl _ _).grown hgrow (Nat.le_refl _) (by simp)
  have hgl := hR0.lt
  have HB3 := Lib.hid hB3
  have c3 := (y9.below y9lt hB3).c1
  clear hown hgrow hB3 c1''
  go_loopw [8] (fun j wr => ∃ (k : Nat) (sb : List Bool), j = .int .i64 k ∧ k ≤ p ∧ RowB wr wz.heap.size sb ∧ Hid (Seen U sb n k) ∧ Hid (∀ i, i < k → U.getD i 0 < (n : Int)) ∧ Below wz.heap.size w3 wr) (fun j _ => p - (intOf j).toNat)
  case atStart => exact ⟨0, _, rfl, Nat.zero_le _, hR0, Lib.hid (seen_zero U n), Lib.hid (fun i hi => by omega), Below.refl _ _⟩
  case round =>
    obtain ⟨k, sb, rfl, hk, hR, hS, hlt, hB⟩ := hrel
    have hbw := HB3.out.trans hB
    have c4 := (y9.below y9lt hbw).c1
    clear c3
    by_cases hkp : k < p
    · have hkI : (k : Int) < p := by omega
      have hk0 : (0 : Int) ≤ (k : Int) := by omega
      have hkU : k < U.length := by rw [← HUl.out]; exact hkp
      obtain ⟨b, o, hP, hbl, hc⟩ := (HSu.out.below hbw).rd k hkU
      subst hP
      obtain ⟨x, hx⟩ : ∃ x, x = U.getD k 0 := ⟨_, rfl⟩
      have hx0 : 0 ≤ x := by
        rw [hx, List.getD_eq_getElem?_getD, List.getElem?_eq_getElem hkU]
        exact un_bd C _ (by rw [← HU.out]; exact List.getElem_mem hkU)
      rw [← hx] at hc
      have Hx := Lib.hid hx
      have HkU := Lib.hid hkU
      clear hx hkU
      by_cases hxn : x < (n : Int)
      · obtain ⟨z, hz⟩ : ∃ z : Nat, x = (z : Int) := ⟨x.toNat, by omega⟩
        subst hz
        have hzn : z < n := by omega
        have hsl := hS.out.1
        have hnext := Lib.hid (seen_next hS.out HkU.out Hx.out.symm hzn)
        have hR2 := Lib.hid hR
        have hf := hR.free z
        have hcz := hR.cell z (by omega)
        have hd3 : decide ((n : Int) ≤ (z : Int)) = false := decide_eq_false (by omega)
        have HB := Lib.hid hB
        have hlt2 := Lib.hid (show ∀ i, i < k + 1 → U.getD i 0 < (n : Int) from fun i hi => by
          by_cases e : i = k
          · rw [e, ← Hx.out]; exact hxn
          · exact hlt.out i (by omega))
        clear hS hR hB hlt hbw hsl
        go_wp2_with fail
        go_quiet (fail)
        go_wp2_with fail
        go_roundw
        case rel => exact ⟨k + 1, sb.set z true, by go_num, by omega, hR2.out.set z true, hnext, hlt2, (Wd.below_drewN HB.out _).setCell (Nat.le_refl _) _⟩
        case measure => simp [intOf]; omega
      · have hq := (Bad.out fun q => by
          have h1 := q.lt x (by
            rw [Hx.out, ← HU.out, List.getD_eq_getElem?_getD, List.getElem?_eq_getElem HkU.out]
            exact List.getElem_mem HkU.out)
          rw [← Hn.out] at h1
          omega).out
        have HQ := Lib.hid hq
        have hd3 : decide ((n : Int) ≤ x) = true := decide_eq_true (by omega)
        have HB := Lib.hid (HBz.out.trans (hbw.mono HBz.out.size))
        clear hq hB hbw
        go_wp2_with fail
        go_quiet (fail)
        go_wp2_with fail
        go_ret2
        exact ⟨_, _, _, by rw [HQ.out.1]; rfl, by rw [HQ.out.2]; exact Wd.Sl.none_ _ _, Wd.below_drewN HB.out _⟩
    · have hkI : ¬ (k : Int) < p := by omega
      have hfin := Lib.hid (show sb.length = n ∧ ∀ j, j < n → sb.getD j false = decide ((j : Int) ∈ U) from ⟨hS.out.1, fun j hj => by
        have := hS.out.2 j hj
        rwa [List.take_of_length_le (by rw [← HUl.out]; omega)] at this⟩)
      have hall := Lib.hid (show ∀ x ∈ U, x < (n : Int) from fun x hx => by
        obtain ⟨i, hi, e⟩ := List.getElem_of_mem hx
        have := hlt.out i (by rw [← HUl.out] at hi; omega)
        rw [List.getD_eq_getElem?_getD, List.getElem?_eq_getElem hi, Option.getD_some, e] at this
        exact this)
      have HBr := Lib.hid (HBz.out.trans (hbw.mono HBz.out.size))
      have HSr := Lib.hid (HSu.out.below hbw)
      have HR := Lib.hid hR
      clear hS hlt hB hbw hR c4 hR0
      obtain ⟨wo, rfl⟩ : ∃ wo : World, wo = wr := ⟨_, rfl⟩
      go_wp2_with fail
      go_loopw [9] (fun j wr => ∃ (k : Nat), j = .int .i64 k ∧ k ≤ n ∧ wr = wo ∧ Hid (∀ i, i < k → ((i : Nat) : Int) ∈ U)) (fun j _ => n - (intOf j).toNat)
      case atStart => exact ⟨0, rfl, Nat.zero_le _, rfl, Lib.hid (fun i hi => by omega)⟩
      case round =>
        obtain ⟨k, rfl, hk, rfl, hin⟩ := hrel
        by_cases hkn : k < n
        · have hkI : (k : Int) < n := by omega
          have hk0 : (0 : Int) ≤ (k : Int) := by omega
          have hcz := HR.out.cell k (by rw [hfin.out.1]; exact hkn)
          rw [hfin.out.2 k hkn] at hcz
          by_cases hmem : (k : Int) ∈ U
          · rw [decide_eq_true hmem] at hcz
            have hin2 := Lib.hid (show ∀ i, i < k + 1 → ((i : Nat) : Int) ∈ U from fun i hi => by
              by_cases e : i = k
              · rw [e]; exact hmem
              · exact hin.out i (by omega))
            clear hin hmem
            go_wp2_with fail
            go_roundw
            case rel => exact ⟨k + 1, by go_num, by omega, trivial, hin2⟩
            case measure => simp [intOf]; omega
          · rw [decide_eq_false hmem] at hcz
            have hq := (Bad.out fun q => hmem (by rw [HU.out]; exact q.all k (by rw [← Hn.out]; exact hkn))).out
            have HQ := Lib.hid hq
            clear hq hmem hin
            go_wp2_with fail
            go_ret2
            exact ⟨_, _, _, by rw [HQ.out.1]; rfl, by rw [HQ.out.2]; exact Wd.Sl.none_ _ _, HBr.out⟩
        · have hkI : ¬ (k : Int) < n := by omega
          have hv : Valid C := ⟨by rw [← HN.out]; omega, by rw [← HN.out]; omega, hris.out, HE.out.symm, fun x hx => by rw [← Hn.out]; exact hall.out x (by rw [HU.out]; exact hx), fun j hj => by rw [← HU.out]; exact hin.out j (by rw [← Hn.out] at hj; omega)⟩
          have HQ := Lib.hid (show r = true ∧ L = U from ⟨by rw [Hr.out, tr_yes hv], by rw [HL.out, nums_yes hv, HU.out]⟩)
          clear hv hin
          go_wp2_with fail
          go_ret2
          exact ⟨_, _, _, by rw [HQ.out.1]; rfl, by rw [HQ.out.2]; exact HSr.out, HBr.out⟩
end Cx
end Go.Proofs.YtaoeipehpakngaaGreatDoor
