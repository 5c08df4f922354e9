/- The reference of layer 12: Head, Fit, Light, Same. What the reference of layer 10 does: Put. A valid light segment in memory, as plain data: its numbers are within their kinds, its payloads are bytes, and short. What may be read of whichever bytes begin a segment's file, or go on behind it. Package and what goes with it. -/
import Derived.Deep.RegionHeld3
import Derived.Deep.DeepCutAuto
import Derived.Lib.Hide
import Derived.StillTailTactics
import Derived.BigQuiet
import Derived.Deep.QuietTactic
import Derived.Deep.Slices
import Derived.Test.YtaoeipehpakngaaGreatDoorPb21
import Derived.Test.YtaoeipehpakngaaGreatDoorPb22
import Derived.Test.YtaoeipehpakngaaGreatDoorPb13
import Derived.Test.YtaoeipehpakngaaGreatDoorPb06
import Derived.Test.YtaoeipehpakngaaGreatDoorPb18
import Derived.Test.YtaoeipehpakngaaGreatDoorPb09
import Derived.Test.YtaoeipehpakngaaGreatDoorPb07
import Derived.Test.YtaoeipehpakngaaGreatDoorPb20
namespace Go.Proofs.YtaoeipehpakngaaGreatDoor
set_option maxRecDepth 20000
open Go.RowKit
namespace Se
open Va (Vl)
open Sc (Sch MayS FitS tr tr_yes tr_no tr_iff tr_congr)
open Sx (Sb five)
open Wd (Cr)
set_option maxHeartbeats 2000000 in
theorem refHead_any (OA : Option Addr) (on oc : Nat) (CA : Option Addr) (cn cc : Nat) (x : Seg) (w : World) :
    Calls Tryz.prog 33 #[.agg #[.int .i64 x.part, .int .i64 x.id, .int .i64 x.st, .int .i64 x.en, .slice OA on oc, .slice CA cn cc]] w fun e w' => e = .returned (.bool (tr (Head x))) ∧ Below w.heap.size w w' := by
  have hb0 := (Below.refl w.heap.size w).alloc (Nat.le_refl _) (.cells #[.int .i64 x.part, .int .i64 x.id, .int .i64 x.st, .int .i64 x.en, .slice OA on oc, .slice CA cn cc] 28)
  obtain ⟨d0, d1, d2, d3, -, -⟩ := Gb.six (Gb.new w x.part x.id x.st x.en OA on oc CA cn cc)
  obtain ⟨r, hr⟩ : ∃ r, r = tr (Head x) := ⟨_, rfl⟩
  rw [← hr]
  have Hno := Lib.hid (fun (h : ¬ Head x) => (by rw [hr]; exact tr_no h : r = false))
  have Hyes := Lib.hid (fun (h : Head x) => (by rw [hr]; exact tr_yes h : r = true))
  clear hr
  by_cases h0 : 0 ≤ x.part
  case neg =>
    have q := Lib.hid (Hno.out fun z => h0 z.1)
    go_enter Tryz.func33, Tryz.ntmps33
    go_wp2_with fail
    go_ret
    exact ⟨by rw [q.out]; rfl, hb0⟩
  by_cases h1 : x.part < 4
  case neg =>
    have q := Lib.hid (Hno.out fun z => h1 z.2.1)
    go_enter Tryz.func33, Tryz.ntmps33
    go_wp2_with fail
    go_ret
    exact ⟨by rw [q.out]; rfl, hb0⟩
  by_cases h2 : 1 ≤ x.id
  case neg =>
    have q := Lib.hid (Hno.out fun z => h2 z.2.2.1)
    go_enter Tryz.func33, Tryz.ntmps33
    go_wp2_with fail
    go_ret
    exact ⟨by rw [q.out]; rfl, hb0⟩
  by_cases h3 : x.id ≤ 1073741824
  case neg =>
    have q := Lib.hid (Hno.out fun z => h3 z.2.2.2.1)
    go_enter Tryz.func33, Tryz.ntmps33
    go_wp2_with fail
    go_ret
    exact ⟨by rw [q.out]; rfl, hb0⟩
  by_cases h4 : 0 ≤ x.st
  case neg =>
    have q := Lib.hid (Hno.out fun z => h4 z.2.2.2.2.1)
    go_enter Tryz.func33, Tryz.ntmps33
    go_wp2_with fail
    go_ret
    exact ⟨by rw [q.out]; rfl, hb0⟩
  by_cases h5 : x.st ≤ x.en
  case neg =>
    have q := Lib.hid (Hno.out fun z => h5 z.2.2.2.2.2.1)
    go_enter Tryz.func33, Tryz.ntmps33
    go_wp2_with fail
    go_ret
    exact ⟨by rw [q.out]; rfl, hb0⟩
  by_cases h6 : x.en ≤ 1099511627776
  case neg =>
    have q := Lib.hid (Hno.out fun z => h6 z.2.2.2.2.2.2)
    go_enter Tryz.func33, Tryz.ntmps33
    go_wp2_with fail
    go_ret
    exact ⟨by rw [q.out]; rfl, hb0⟩
  have q := Lib.hid (Hyes.out ⟨h0, h1, h2, h3, h4, h5, h6⟩)
  go_enter Tryz.func33, Tryz.ntmps33
  go_wp2_with fail
  go_ret
  exact ⟨by rw [q.out]; rfl, hb0⟩
set_option maxHeartbeats 4000000 in
theorem refFit_any (A : Option Addr) (n c : Nat) (s : Sch) (R : Option Addr) (m d : Nat) (l : List (List Vl)) (w : World) (hS : Wd.Cs w A n c s.cols) (hL : Wd.Ls w R m d l) (hn : n ≤ 1000000) (hm : m ≤ 1000000) :
    Calls Tryz.prog 32 #[.agg #[.slice A n c, .int .i64 s.key, .int .i64 s.cmp, .int .i64 s.del, .int .i64 s.sort], .slice R m d] w fun e w' => e = .returned (.bool (tr (Fit s l))) ∧ Below w.heap.size w w' := by
  have hb0 := (Below.refl w.heap.size w).alloc (Nat.le_refl _) (.cells #[.slice A n c, .int .i64 s.key, .int .i64 s.cmp, .int .i64 s.del, .int .i64 s.sort] 24)
  have s0 : Sb (w.alloc (.cells #[.slice A n c, .int .i64 s.key, .int .i64 s.cmp, .int .i64 s.del, .int .i64 s.sort] 24)) w.heap.size A n c s.key s.cmp s.del s.sort := Wd.Bx.new w _ _
  have Cm := Lib.hid (Sx.refMayS_any A n c s _ (hS.below hb0) hn)
  have HS := Lib.hid hS
  have HL := Lib.hid hL
  have Hl := Lib.hid hL.len
  have hcap := hL.cap
  have hmax := hL.max
  unfold maxLen at hmax
  have HB := Lib.hid s0
  have Hb0 := Lib.hid hb0
  obtain ⟨c0, c1, c2, c3, c4⟩ := five s0
  obtain ⟨r, hr⟩ : ∃ r, r = tr (Fit s l) := ⟨_, rfl⟩
  rw [← hr]
  have Hno := Lib.hid (fun (h : ¬ Fit s l) => (by rw [hr]; exact tr_no h : r = false))
  have Hyes := Lib.hid (fun (h : Fit s l) => (by rw [hr]; exact tr_yes h : r = true))
  clear hr hb0 s0 hS hL
  go_enter Tryz.func32, Tryz.ntmps32
  by_cases hm1 : MayS s
  case neg =>
    have q1 := Lib.hid (tr_no hm1)
    have q2 := Lib.hid (Hno.out fun z => hm1 z.1)
    clear hm1
    go_wp2_with fail
    refine Cm.out.mono ?_
    rintro e w1 ⟨rfl, hB1⟩
    rw [q1.out]
    have Hb1 := Lib.hid (Hb0.out.trans (hB1.mono Hb0.out.size))
    clear hB1 Cm
    go_wp2_with fail
    go_ret
    exact ⟨by rw [q2.out]; rfl, Hb1.out⟩
  have q1 := Lib.hid (tr_yes hm1)
  have Hm1 := Lib.hid hm1
  clear hm1
  go_wp2_with fail
  refine Cm.out.mono ?_
  rintro e w1 ⟨rfl, hB1⟩
  rw [q1.out]
  have Hb1 := Lib.hid (Hb0.out.trans (hB1.mono Hb0.out.size))
  have HB1 := Lib.hid (HB.out.below HB.out.lt hB1)
  clear hB1 c0 c1 c2 c3 c4 Cm
  go_wp2_with fail
  go_loopw [6] (fun i wr => ∃ k : Nat, i = .int .i64 k ∧ k ≤ m ∧ Hid ((∀ j, j < k → FitS s (l.getD j [])) ∧ Below w1.heap.size w1 wr)) (fun i _ => m - (intOf i).toNat)
  case atStart => exact ⟨0, rfl, Nat.zero_le _, Lib.hid ⟨fun j hj => by omega, Below.refl _ _⟩⟩
  case round =>
    obtain ⟨k, rfl, hk, hI⟩ := hrel
    by_cases hlt : k < m
    · have hkI : (k : Int) < (m : Int) := by omega
      have hbw : Below w.heap.size w wr := Hb1.out.trans (hI.out.2.mono Hb1.out.size)
      obtain ⟨b, f, A1, n1, c1, hA, _, r0, hV1⟩ := (HL.out.below hbw).at_ k (by have := Hl.out; omega)
      subst hA
      have Cf := Lib.hid (fun W (hb : Below wr.heap.size wr W) => Sx.refFits_any A n c s A1 n1 c1 (l.getD k []) W (HS.out.below (hbw.trans (hb.mono hbw.size))) (hV1.below hb) hn)
      obtain ⟨fv, hfv⟩ : ∃ fv, fv = tr (FitS s (l.getD k [])) := ⟨_, rfl⟩
      rw [← hfv] at Cf
      have Hfv := Lib.hid hfv
      have SB := Lib.hid (HB1.out.below HB1.out.lt hI.out.2)
      have R0 := Lib.hid r0
      have hkl : k < l.length := by have := Hl.out; omega
      have Hkl := Lib.hid hkl
      have HI := Lib.hid hI.out
      have ZZ := Lib.hid (fun (W : World) (hb : Below wr.heap.size wr W) => (show W.cell? ⟨w.heap.size, 0, none⟩ = some (.slice A n c) ∧ W.cell? ⟨w.heap.size, 1, none⟩ = some (.int .i64 s.key) ∧ W.cell? ⟨w.heap.size, 2, none⟩ = some (.int .i64 s.cmp) ∧ W.cell? ⟨w.heap.size, 3, none⟩ = some (.int .i64 s.del) ∧ W.cell? ⟨w.heap.size, 4, none⟩ = some (.int .i64 s.sort) ∧ W.cell? ⟨b, f + k, none⟩ = some (.slice A1 n1 c1) from by
        obtain ⟨a0, a1, a2, a3, a4⟩ := five (SB.out.below SB.out.lt hb)
        exact ⟨a0, a1, a2, a3, a4, (hb.cell (World.block_lt_of_cell? wr _ R0.out)).trans R0.out⟩))
      clear hbw r0 hV1 hfv hkl hI
      go_upto_region 7 with fail
      go_cut [7] (fun v wz => v = .bool fv ∧ Below wr.heap.size wr wz)
      case first =>
        have hb : Below wr.heap.size wr wr.drew := (Below.refl _ _).drew
        have z10 := ZZ.out wr.drew hb
        go_region_held3 (fun W => W.cell? ⟨w.heap.size, 0, none⟩ = some (.slice A n c) ∧ W.cell? ⟨w.heap.size, 1, none⟩ = some (.int .i64 s.key) ∧ W.cell? ⟨w.heap.size, 2, none⟩ = some (.int .i64 s.cmp) ∧ W.cell? ⟨w.heap.size, 3, none⟩ = some (.int .i64 s.del) ∧ W.cell? ⟨w.heap.size, 4, none⟩ = some (.int .i64 s.sort) ∧ W.cell? ⟨b, f + k, none⟩ = some (.slice A1 n1 c1)) (with_reducible first | exact z10) (first
          | (go_at_call 69; (with_reducible refine (Cf.out _ hb).mono ?_); rintro e w5 ⟨rfl, hB5⟩; have hb := hb.trans (hB5.mono hb.size); have z10 := ZZ.out _ hb))
        all_goals (
          go_wp2_with fail
          go_meet
          exact ⟨rfl, hb⟩)
      case rest =>
        obtain ⟨rfl, hbc⟩ := hcut
        have Hb5 := Lib.hid (HI.out.2.trans (hbc.mono HI.out.2.size))
        clear hbc ZZ Cf
        by_cases hv : FitS s (l.getD k [])
        · obtain rfl : fv = true := by rw [Hfv.out]; exact tr_yes hv
          have I6 := Lib.hid (show (∀ j, j < k + 1 → FitS s (l.getD j [])) ∧ Below w1.heap.size w1 wc from ⟨fun j h1 => by
            by_cases z : j = k
            · rw [z]; exact hv
            · exact HI.out.1 j (by omega), Hb5.out⟩)
          clear HI hv
          go_wp2_with fail
          go_roundw
          case rel => exact ⟨k + 1, by go_num, by omega, I6⟩
          case measure => simp [intOf]; omega
        · obtain rfl : fv = false := by rw [Hfv.out]; exact tr_no hv
          have t2 := Lib.hid (Hno.out fun z => hv (z.2 _ (by
            rw [List.getD_eq_getElem?_getD, List.getElem?_eq_getElem Hkl.out]
            exact List.getElem_mem _)))
          clear HI hv
          go_wp2_with fail
          go_ret
          exact ⟨by rw [t2.out]; rfl, Hb1.out.trans (Hb5.out.mono Hb1.out.size)⟩
    · have hkI : ¬ (k : Int) < (m : Int) := by omega
      have t2 := Lib.hid (Hyes.out ⟨Hm1.out, fun r hr => by
        obtain ⟨j, hj, rfl⟩ := List.getElem_of_mem hr
        have := hI.out.1 j (by have := Hl.out; omega)
        simpa [List.getD, List.getElem?_eq_getElem hj] using this⟩)
      have H4 := Lib.hid (Hb1.out.trans (hI.out.2.mono Hb1.out.size))
      clear hI
      go_wp2_with fail
      go_ret
      exact ⟨by rw [t2.out]; rfl, H4.out⟩
def LightG (x : Seg) : Prop := x.offs.length ≤ 200 ∧ x.cols.length ≤ 12 ∧ ∀ c ∈ x.cols, Cx.LightC c
set_option maxHeartbeats 4000000 in
theorem refLight_any (OA : Option Addr) (on oc : Nat) (CA : Option Addr) (cn cc : Nat) (os : List Cr) (x : Seg) (w : World) (hX : Sg w OA on oc CA cn cc os x) :
    Calls Tryz.prog 8 #[.agg #[.int .i64 x.part, .int .i64 x.id, .int .i64 x.st, .int .i64 x.en, .slice OA on oc, .slice CA cn cc]] w fun e w' => e = .returned (.bool (tr (LightG x))) ∧ Below w.heap.size w w' := by
  have hb0 := (Below.refl w.heap.size w).alloc (Nat.le_refl _) (.cells #[.int .i64 x.part, .int .i64 x.id, .int .i64 x.st, .int .i64 x.en, .slice OA on oc, .slice CA cn cc] 28)
  have x0 := Gb.new w x.part x.id x.st x.en OA on oc CA cn cc
  obtain ⟨d0, d1, d2, d3, d4, d5⟩ := Gb.six x0
  have HX := Lib.hid hX
  have X0 := Lib.hid x0
  have Hb0 := Lib.hid hb0
  have Hcn := Lib.hid hX.cols.len
  have Hon := Lib.hid hX.offs.len
  obtain ⟨r, hr⟩ : ∃ r, r = tr (LightG x) := ⟨_, rfl⟩
  rw [← hr]
  have Hno := Lib.hid (fun (h : ¬ LightG x) => (by rw [hr]; exact tr_no h : r = false))
  have Hyes := Lib.hid (fun (h : LightG x) => (by rw [hr]; exact tr_yes h : r = true))
  clear hr hX x0 hb0 d0 d1 d2 d3
  go_enter Tryz.func8, Tryz.ntmps8
  by_cases h1 : 200 < on
  · have t1 : (200 : Int) < (on : Int) := by omega
    have t1' : decide ((200 : Int) < (on : Int)) = true := decide_eq_true t1
    have t2 := Lib.hid (Hno.out fun z => by have := z.1; have := Hon.out; omega)
    clear h1
    go_wp2_with fail
    go_ret
    exact ⟨by rw [t2.out]; rfl, Hb0.out⟩
  have t1 : ¬ (200 : Int) < (on : Int) := by omega
  have t1' : decide ((200 : Int) < (on : Int)) = false := decide_eq_false t1
  by_cases h2 : 12 < cn
  · have t3 : (12 : Int) < (cn : Int) := by omega
    have t3' : decide ((12 : Int) < (cn : Int)) = true := decide_eq_true t3
    have t2 := Lib.hid (Hno.out fun z => by have := z.2.1; rw [HX.out.eq, Wd.cols_len] at this; have := Hcn.out; omega)
    go_wp2_with fail
    go_ret
    exact ⟨by rw [t2.out]; rfl, Hb0.out⟩
  have t3 : ¬ (12 : Int) < (cn : Int) := by omega
  have t3' : decide ((12 : Int) < (cn : Int)) = false := decide_eq_false t3
  go_wp2_with fail
  obtain ⟨w1, hw1⟩ : ∃ w1, w1 = w.alloc (.cells #[.int .i64 x.part, .int .i64 x.id, .int .i64 x.st, .int .i64 x.en, .slice OA on oc, .slice CA cn cc] 28) := ⟨_, rfl⟩
  rw [← hw1] at X0 Hb0
  try rw [← hw1]
  clear hw1 d4 d5
  go_loopw [3] (fun i wr => ∃ k : Nat, i = .int .i64 k ∧ k ≤ cn ∧ Hid ((∀ j, j < k → Cx.LightC (os.getD j default).C) ∧ Below w1.heap.size w1 wr)) (fun i _ => cn - (intOf i).toNat)
  case atStart => exact ⟨0, rfl, Nat.zero_le _, Lib.hid ⟨fun j hj => by omega, Below.refl _ _⟩⟩
  case round =>
    obtain ⟨k, rfl, hk, hI⟩ := hrel
    have d5 := (Gb.six (X0.out.below X0.out.lt hI.out.2)).2.2.2.2.2
    by_cases hltk : k < cn
    · have hkI : (k : Int) < (cn : Int) := by omega
      have hbw : Below w.heap.size w wr := Hb0.out.trans (hI.out.2.mono Hb0.out.size)
      have hko : k < os.length := by rw [← Hcn.out]; exact hltk
      obtain ⟨b, f, hA, _, c0, c1, c2, hC⟩ := (HX.out.cols.below hbw).cells hko rfl
      have hcap := HX.out.cols.cap
      have hmax := HX.out.cols.max
      unfold maxLen at hmax
      subst hA
      obtain ⟨o, ho⟩ : ∃ o, o = os.getD k default := ⟨_, rfl⟩
      rw [← ho] at c0 c1 c2 hC
      have Cl := Lib.hid (Cx.Light_any o.A o.n o.c o.B o.m o.d o.C wr hC)
      have hbad := fun (h : ¬ Cx.LightC o.C) => Hno.out fun z => h (z.2.2 o.C (by
          rw [HX.out.eq, ho]
          unfold Wd.cols
          refine List.mem_map.2 ⟨os.getD k default, ?_, rfl⟩
          rw [List.getD_eq_getElem?_getD, List.getElem?_eq_getElem hko]
          exact List.getElem_mem hko))
      have Ho := Lib.hid ho
      have Hbad := Lib.hid hbad
      clear hbad ho hko hC hbw
      by_cases q2 : Cx.LightC o.C
      case neg =>
        have t6 := Lib.hid (Hbad.out q2)
        have t7 := Lib.hid (tr_no q2)
        clear q2
        go_wp2_with fail
        refine Cl.out.mono ?_
        rintro e w3 ⟨rfl, hB3⟩
        rw [t7.out]
        have H3 := Lib.hid (hI.out.2.trans (hB3.mono hI.out.2.size))
        clear hB3 Cl hI
        go_wp2_with fail
        go_ret
        exact ⟨by rw [t6.out]; rfl, Hb0.out.trans (H3.out.mono Hb0.out.size)⟩
      have t7 := Lib.hid (tr_yes q2)
      have Q2 := Lib.hid q2
      clear q2
      go_wp2_with fail
      refine Cl.out.mono ?_
      rintro e w3 ⟨rfl, hB3⟩
      rw [t7.out]
      have I3 := Lib.hid (show (∀ j, j < k + 1 → Cx.LightC (os.getD j default).C) ∧ Below w1.heap.size w1 w3 from ⟨fun j hj => by
        by_cases z : j = k
        · rw [z, ← Ho.out]; exact Q2.out
        · exact hI.out.1 j (by omega), hI.out.2.trans (hB3.mono hI.out.2.size)⟩)
      clear hB3 Cl hI d5 c0 c1 c2
      go_wp2_with fail
      go_roundw
      case rel => exact ⟨k + 1, by go_num, by omega, I3⟩
      case measure => simp [intOf]; omega
    · have hkI : ¬ (k : Int) < (cn : Int) := by omega
      have t6 := Lib.hid (Hyes.out ⟨by have := Hon.out; omega, by rw [HX.out.eq, Wd.cols_len]; have := Hcn.out; omega, fun c hc => by
        rw [HX.out.eq] at hc
        obtain ⟨o, ho, rfl⟩ := List.mem_map.1 hc
        obtain ⟨j, hj, rfl⟩ := List.getElem_of_mem ho
        have := hI.out.1 j (by have := Hcn.out; omega)
        simpa [List.getD, List.getElem?_eq_getElem hj] using this⟩)
      have H3 := Lib.hid (Hb0.out.trans (hI.out.2.mono Hb0.out.size))
      clear hI
      go_wp2_with fail
      go_ret
      exact ⟨by rw [t6.out]; rfl, H3.out⟩
end Se
namespace Cx
open Va (Vl May ord null)
open Sc (tr tr_yes tr_no tr_iff)
open Co
theorem info_y : (Tryz.prog.info? 5).map (fun i => (i.zero, i.size, i.bytes)) = some (some (.int .u8 0), 1, 1) := by kernel_rfl
theorem putD_next (D : List Vl) (k : Nat) (h : k < D.length) : putD (D.take (k + 1)) = putD (D.take k) ++ ((D.getD k default).kind :: Va.put (D.getD k default)) := by
  unfold putD
  rw [List.take_succ_eq_append_getElem h, List.flatMap_append]
  simp [List.getD, h]
theorem putD_len {D : List Vl} (h : ∀ v ∈ D, May v) : (putD D).length ≤ 75 * D.length := by
  induction D with
  | nil => simp [putD]
  | cons a D ih =>
    have h1 := Va.put_len (h a (by simp))
    have h2 := ih fun v hv => h v (by simp [hv])
    unfold putD at *
    simp only [List.flatMap_cons, List.length_append, List.length_cons]
    omega
theorem may_kind {v : Vl} (h : May v) : 0 ≤ v.kind ∧ v.kind ≤ 3 := by
  unfold May at h
  omega
end Cx
namespace Fi
open Va (Vl May)
open Sc (Sch)
open Se (Seg Ok Sg LightG Lt)
open Wd (Cr)
theorem puts_byt {C : Co.Col} (h : Co.Valid C) (hd : C.dict.length ≤ 1000) (hI : ∀ v ∈ C.dict, Wd.V1 v) (hi : Bt.InR 8 C.ids) : Nm.Byt (Co.puts C) := by
  intro x hx
  unfold Co.puts at hx
  rcases List.mem_append.1 hx with hx | hx
  · rcases List.mem_append.1 hx with hx | hx
    · rcases List.mem_append.1 hx with hx | hx
      · exact Nm.vd_byt C.n h.n0 (by have := h.n1; omega) x hx
      · exact Nm.vd_byt (C.dict.length : Int) (by omega) (by omega) x hx
    · unfold Co.putD at hx
      obtain ⟨v, hv, hx⟩ := List.mem_flatMap.1 hx
      rcases List.mem_cons.1 hx with rfl | hx
      · have := Cx.may_kind (h.ris.1 v hv)
        omega
      · have hb := bounds_i64 (hI v hv).w1
        exact Va.put_byt (h.ris.1 v hv) hb.1 hb.2 x hx
  · have := hi x hx
    rw [show (2 : Int) ^ 8 = 256 by decide] at this
    omega
section
variable {w : World} {OA : Option Addr} {on oc : Nat} {CA : Option Addr} {cn cc : Nat} {os : List Cr} {x : Seg} {s : Sch}
theorem lt_light (h : Sg w OA on oc CA cn cc os x) (hl : LightG x) : Lt os := by
  intro j hj
  obtain ⟨_, _, _, _, _, h1⟩ := h.cols.at_ j hj
  have hm : (os.getD j default).C ∈ x.cols := by
    rw [h.eq, ← Wd.cols_get, List.getD_eq_getElem?_getD, List.getElem?_eq_getElem (by rw [Wd.cols_len]; exact hj)]
    exact List.getElem_mem _
  have l := hl.2.2 _ hm
  have d := h1.dict.len
  have i := h1.ids.len
  have l1 := l.1
  have l2 := l.2.1
  exact ⟨by omega, by omega⟩
theorem cr_of (h : Sg w OA on oc CA cn cc os x) {c : Co.Col} (hc : c ∈ x.cols) : ∃ o : Cr, Wd.Cr1 w o ∧ o.C = c := by
  rw [h.eq] at hc
  obtain ⟨o, ho, rfl⟩ := List.mem_map.1 hc
  obtain ⟨j, hj, rfl⟩ := List.getElem_of_mem ho
  obtain ⟨_, _, _, _, _, h1⟩ := h.cols.at_ j hj
  rw [show os.getD j default = os[j] by simp [List.getD, hj]] at h1
  exact ⟨_, h1, rfl⟩
theorem cr_v1 {o : Cr} (h : Wd.Cr1 w o) : ∀ v ∈ o.C.dict, Wd.V1 v := fun v hv => by
  obtain ⟨j, hj, rfl⟩ := List.getElem_of_mem hv
  obtain ⟨_, _, _, _, _, h1⟩ := h.dict.at_ j hj
  rw [show o.C.dict.getD j default = o.C.dict[j] by simp [List.getD, hj]] at h1
  exact h1
structure Good (x : Seg) : Prop where
  nice : Nice x
  byts : Byts x
  room : Room x
  fine : Fr.Fine (pays x)
  v1 : ∀ c ∈ x.cols, Co.Valid c ∧ c.dict.length ≤ 200 ∧ ∀ v ∈ c.dict, Wd.V1 v
  len : (fileB x).length ≤ 930000
theorem light_good (h : Sg w OA on oc CA cn cc os x) (hok : Ok s x) (hl : LightG x) : Good x := by
  have hv : ∀ c ∈ x.cols, Co.Valid c ∧ c.dict.length ≤ 200 ∧ ∀ v ∈ c.dict, Wd.V1 v := fun c hc => by
    obtain ⟨o, h1, rfl⟩ := cr_of h hc
    exact ⟨(hok.cols _ hc).2, (hl.2.2 _ hc).1, cr_v1 h1⟩
  have hb : Byts x := fun c hc => by
    obtain ⟨o, h1, rfl⟩ := cr_of h hc
    exact puts_byt (hv _ hc).1 (by have := (hv _ hc).2.1; omega) (hv _ hc).2.2 h1.byt
  have hn : Nice x := ⟨hok.head, by have := hl.2.1; omega, hok.len, fun z hz => bounds_i64 (h.fit z hz), fun c hc => by
    obtain ⟨a, b, d⟩ := hv c hc
    exact ⟨a.n0, a.n1, by omega, fun v hv => ⟨a.ris.1 v hv, bounds_i64 (d v hv).w1⟩⟩⟩
  have hr : Room x := room hl.1 fun c hc => ⟨(hl.2.2 c hc).1, (hl.2.2 c hc).2.1, (hv c hc).1.ris.1⟩
  refine ⟨hn, hb, hr, pays_fine hn hb hr, hv, ?_⟩
  have := Fr.cat_len (l := pays x) (n := 65536) hr
  rw [pays_len] at this
  have h12 := hl.2.1
  have : (2 + x.cols.length) * (65536 + 14) ≤ 14 * (65536 + 14) := Nat.mul_le_mul_right _ (by omega)
  unfold fileB
  omega
end
def Bad (x : Seg) (ps : List (List Int)) : Prop := (∃ q, q < (pays x).length ∧ ps = (pays x).take q) ∨ (∃ m, m ≠ [] ∧ ps = pays x ++ m)
theorem cut_q (x : Seg) (k : Nat) : ∃ q, q ≤ (pays x).length ∧ Fr.ed (pays x) q ≤ k ∧ (q < (pays x).length → k < Fr.ed (pays x) (q + 1)) := by
  have key : ∀ n, n ≤ (pays x).length → (∃ q, q ≤ n ∧ Fr.ed (pays x) q ≤ k ∧ (q < n → k < Fr.ed (pays x) (q + 1))) := by
    intro n
    induction n with
    | zero => intro _; exact ⟨0, Nat.le_refl _, by rw [Fr.ed_zero]; exact Nat.zero_le _, fun h => by omega⟩
    | succ n ih =>
      intro hn
      obtain ⟨q, a, b, c⟩ := ih (by omega)
      by_cases z : Fr.ed (pays x) (n + 1) ≤ k
      · exact ⟨n + 1, Nat.le_refl _, z, fun h => by omega⟩
      · by_cases e : q = n
        · subst e
          exact ⟨q, by omega, b, fun _ => by omega⟩
        · exact ⟨q, by omega, b, fun _ => c (by omega)⟩
  exact key _ (Nat.le_refl _)
theorem bad_cut {x : Seg} (hx : Good x) {k : Nat} (hk : k < (fileB x).length) : (Fr.rd ((fileB x).take k)).2 ≠ k ∨ Bad x (Fr.rd ((fileB x).take k)).1 := by
  obtain ⟨q, hq, h1, h2⟩ := cut_q x k
  have e := Fr.rd_cut (pays x) k q hx.fine hq h1 h2
  have e' : Fr.rd ((fileB x).take k) = ((pays x).take q, Fr.ed (pays x) q) := e
  rw [e']
  by_cases hqe : q = (pays x).length
  · subst hqe
    rw [Fr.ed_all] at h1
    unfold fileB at hk
    omega
  · exact .inr (.inl ⟨q, by omega, rfl⟩)
theorem rd_le (b : List Int) : ∀ n, b.length ≤ n → (Fr.rd b).2 ≤ b.length ∧ ((Fr.rd b).1 = [] → (Fr.rd b).2 = 0) := by
  intro n
  induction n generalizing b with
  | zero =>
    intro h
    obtain rfl := List.eq_nil_of_length_eq_zero (Nat.le_zero.1 h)
    rw [Fr.rd_nil]
    exact ⟨Nat.le_refl _, fun _ => rfl⟩
  | succ n ih =>
    intro h
    cases ho : Fr.openF b with
    | none => rw [Fr.rd_none ho]; exact ⟨Nat.zero_le _, fun _ => rfl⟩
    | some r =>
      obtain ⟨p, k⟩ := r
      have l := Fr.openF_le ho
      rw [Fr.rd_some ho]
      have := (ih (b.drop k) (by rw [List.length_drop]; omega)).1
      rw [List.length_drop] at this
      exact ⟨by show k + _ ≤ _; omega, fun z => by simp at z⟩
theorem bad_more {x : Seg} (hx : Good x) {m : List Int} (hm : m ≠ []) : (Fr.rd (fileB x ++ m)).2 ≠ (fileB x ++ m).length ∨ Bad x (Fr.rd (fileB x ++ m)).1 := by
  have e : Fr.rd (fileB x ++ m) = (pays x ++ (Fr.rd m).1, (fileB x).length + (Fr.rd m).2) := Fr.rd_cat (pays x) m hx.fine
  rw [e]
  by_cases q : (Fr.rd m).1 = []
  · left
    rw [(rd_le m _ (Nat.le_refl _)).2 q, List.length_append]
    have := List.length_pos_iff.2 hm
    show (fileB x).length + 0 ≠ _
    omega
  · exact .inr (.inr ⟨_, q, rfl⟩)
theorem file_byt {x : Seg} (hx : Good x) : Nm.Byt (fileB x) := Fr.cat_byt hx.fine
end Fi
namespace Fi
open Nc
open Se (Seg Sg Gb)
open Wd (Cr)
def hns (x : Seg) : List Int := [x.part, x.id, x.st, x.en, (x.cols.length : Int)]
def hdk (x : Seg) (k : Nat) : List Int := ((hns x).take k).flatMap Nm.vd
theorem hdk_next (x : Seg) (k : Nat) (h : k < 5) : hdk x (k + 1) = hdk x k ++ Nm.vd ((hns x).getD k 0) := by
  unfold hdk
  rw [Rn.take_next (hns x) k 0 (by simp [hns]; omega), List.flatMap_append]
  simp
theorem hdk_all (x : Seg) : hdk x 5 = head x := by simp [hdk, hns, head]
theorem hdk_len (x : Seg) : ∀ k, k ≤ 5 → (hdk x k).length ≤ 10 * k
  | 0, _ => by simp [hdk]
  | k + 1, h => by
    rw [hdk_next x k (by omega), List.length_append]
    have := hdk_len x k (by omega)
    have := (Nm.vd_len ((hns x).getD k 0)).2
    omega
theorem hns_in {x : Seg} (h : Se.Head x) (hc : x.cols.length ≤ 1000000) (k : Nat) (hk : k < 5) : 0 ≤ (hns x).getD k 0 ∧ (hns x).getD k 0 ≤ 9223372036854775807 := by
  obtain ⟨x1, x2, x3, x4, x5, x6, x7⟩ := h
  match k, hk with
  | 0, _ => exact ⟨x1, show x.part ≤ _ by omega⟩
  | 1, _ => exact ⟨show 0 ≤ x.id by omega, show x.id ≤ _ by omega⟩
  | 2, _ => exact ⟨x5, show x.st ≤ _ by omega⟩
  | 3, _ => exact ⟨show 0 ≤ x.en by omega, show x.en ≤ _ by omega⟩
  | 4, _ => exact ⟨show 0 ≤ (x.cols.length : Int) by omega, show (x.cols.length : Int) ≤ _ by omega⟩
set_option maxHeartbeats 4000000 in
theorem head_any (OA : Option Addr) (on oc : Nat) (CA : Option Addr) (cn cc : Nat) (x : Seg) (w : World) (hn : cn = x.cols.length) (hc : cn ≤ 1000000) (h : Se.Head x) :
    Calls Tryz.prog 47 #[.agg #[.int .i64 x.part, .int .i64 x.id, .int .i64 x.st, .int .i64 x.en, .slice OA on oc, .slice CA cn cc]] w (Wd.Out w .u8 (head x)) := by
  have x0 := Gb.new w x.part x.id x.st x.en OA on oc CA cn cc
  have b0 := (Below.refl w.heap.size w).alloc (Nat.le_refl _) (.cells #[.int .i64 x.part, .int .i64 x.id, .int .i64 x.st, .int .i64 x.en, .slice OA on oc, .slice CA cn cc] 28)
  obtain ⟨w1, hw1⟩ : ∃ w1, w1 = w.alloc (.cells #[.int .i64 x.part, .int .i64 x.id, .int .i64 x.st, .int .i64 x.en, .slice OA on oc, .slice CA cn cc] 28) := ⟨_, rfl⟩
  rw [← hw1] at x0 b0
  have r0 : Wd.Row (w1.alloc (.cells #[.int .i64 x.part, .int .i64 x.id, .int .i64 x.st, .int .i64 x.en, .int .i64 (cn : Int)] 3)) w1.heap.size .i64 3 (hns x) := by
    rw [hn]
    exact Wd.Bx.new w1 _ _
  have b1 := b0.alloc b0.size (.cells #[.int .i64 x.part, .int .i64 x.id, .int .i64 x.st, .int .i64 x.en, .int .i64 (cn : Int)] 3)
  obtain ⟨d0, d1, d2, d3, d4, d5⟩ := x0.six
  obtain ⟨w2, hw2⟩ : ∃ w2, w2 = w1.alloc (.cells #[.int .i64 x.part, .int .i64 x.id, .int .i64 x.st, .int .i64 x.en, .int .i64 (cn : Int)] 3) := ⟨_, rfl⟩
  rw [← hw2] at r0 b1
  have Hw1 := Lib.hid hw1
  have Hw2 := Lib.hid hw2
  have R0 := Lib.hid r0
  have B1 := Lib.hid b1
  have Hin := Lib.hid (hns_in h (by rw [← hn]; exact hc))
  clear hw1 hw2 x0 b0 r0 b1 h hn
  go_enter Tryz.func47, Tryz.ntmps47
  go_upto_region 1 with fail
  rw [← Hw1.out]
  go_wp2_with fail
  rw [← Hw2.out]
  go_loopw [3, 19] (fun v i wr => ∃ k : Nat, i = .int .i64 k ∧ k ≤ 5 ∧ ∃ A n c, v = .slice A n c ∧ Hid (Wd.Sl wr .u8 A n c (hdk x k)) ∧ Hid (Below w2.heap.size w2 wr)) (fun _ i _ => 5 - (intOf i).toNat)
  case atStart => exact ⟨0, rfl, Nat.zero_le _, none, 0, 0, rfl, Lib.hid (Wd.Sl.none_ _ _), Lib.hid (Below.refl _ _)⟩
  case round =>
    clear d0 d1 d2 d3 d4 d5
    obtain ⟨k, rfl, hk, A, n, c, rfl, hS, hb⟩ := hrel
    by_cases hlt : k < 5
    · have hkI : (k : Int) < 5 := by omega
      have hd := (R0.out.below R0.out.lt hb.out).cell k hlt
      obtain ⟨z, hz⟩ : ∃ z, z = (hns x).getD k 0 := ⟨_, rfl⟩
      rw [← hz] at hd
      have hzi := Hin.out k hlt
      rw [← hz] at hzi
      have hl := hdk_len x k hk
      have C := Lib.hid (putLen_any A n c (hdk x k) z wr hS.out (by rw [hS.out.len]; omega) (by omega) hzi.2)
      rw [if_neg (by omega)] at C
      have Hz := Lib.hid hz
      clear hz hzi hl
      go_wp2_with fail
      refine C.out.mono ?_
      rintro e w3 ⟨A3, n3, c3, rfl, hS3, hB3⟩
      rw [Hz.out, ← hdk_next x k hlt] at hS3
      have HS3 := Lib.hid hS3
      have HB3 := Lib.hid (hb.out.trans (hB3.mono hb.out.size))
      clear hS3 hB3 hd C
      go_wp2_with fail
      go_roundw
      case rel => exact ⟨k + 1, by go_num, by omega, A3, n3, c3, rfl, HS3, HB3⟩
      case measure => simp [intOf]; omega
    · have hkI : ¬ (k : Int) < 5 := by omega
      obtain rfl : k = 5 := by omega
      go_wp2_with fail
      go_ret
      refine ⟨A, n, c, rfl, ?_, B1.out.trans (hb.out.mono B1.out.size)⟩
      have := hS.out
      rwa [hdk_all] at this
end Fi
namespace Wd
def Gs (w : World) (us : List Value) (ys : List (List Int)) : Prop :=
  us.length = ys.length ∧ ∀ j, j < ys.length → ∃ A n c, us[j]? = some (.slice A n c) ∧ Sl w .u8 A n c (ys.getD j [])
theorem Gs.below {w w' : World} {us : List Value} {ys : List (List Int)} (h : Gs w us ys) (hb : Below w.heap.size w w') : Gs w' us ys :=
  ⟨h.1, fun j hj => by
    obtain ⟨A, n, c, e, hs⟩ := h.2 j hj
    exact ⟨A, n, c, e, hs.below hb⟩⟩
theorem Gs.app {w : World} {us vs : List Value} {ys zs : List (List Int)} (h : Gs w us ys) (k : Gs w vs zs) : Gs w (us ++ vs) (ys ++ zs) := by
  refine ⟨by rw [List.length_append, List.length_append, h.1, k.1], fun j hj => ?_⟩
  rw [List.length_append] at hj
  by_cases q : j < ys.length
  · obtain ⟨A, n, c, e, hs⟩ := h.2 j q
    refine ⟨A, n, c, by rw [List.getElem?_append_left (by rw [h.1]; exact q)]; exact e, ?_⟩
    rwa [show (ys ++ zs).getD j [] = ys.getD j [] by simp only [List.getD]; rw [List.getElem?_append_left q]]
  · obtain ⟨A, n, c, e, hs⟩ := k.2 (j - ys.length) (by omega)
    refine ⟨A, n, c, by rw [List.getElem?_append_right (by rw [h.1]; omega), h.1]; exact e, ?_⟩
    rwa [show (ys ++ zs).getD j [] = zs.getD (j - ys.length) [] by simp only [List.getD]; rw [List.getElem?_append_right (by omega)]]
end Wd
end Go.Proofs.YtaoeipehpakngaaGreatDoor
