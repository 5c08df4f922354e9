/- The reference of layer 12: Same. Words on memory: a record as a struct (a row, an offset), a slice of such; from an argument as the statement reads it to these words. Their type, at this program. Package seal: Build of no rows, from what is below it. -/
import Derived.Deep.RegionHeld3
import Derived.Deep.DeepCutAuto
import Derived.Lib.Hide
import Derived.Test.YtaoeipehpakngaaGreatDoorPa23
import Derived.Test.YtaoeipehpakngaaGreatDoorPa04
import Derived.Test.YtaoeipehpakngaaGreatDoorPa08
import Derived.Test.YtaoeipehpakngaaGreatDoorPa05
import Derived.Test.YtaoeipehpakngaaGreatDoorPa37
import Derived.Test.YtaoeipehpakngaaGreatDoorPa07
import Derived.Test.YtaoeipehpakngaaGreatDoorPa21
import Derived.Test.YtaoeipehpakngaaGreatDoorPa12
import Derived.Test.YtaoeipehpakngaaGreatDoorPa17
import Derived.Test.YtaoeipehpakngaaGreatDoorPa24
namespace Go.Proofs.YtaoeipehpakngaaGreatDoor
set_option maxRecDepth 20000
open Go.RowKit
namespace Se
open Va (Vl)
open Sc (Sch MayS FitS tr tr_yes tr_no tr_iff tr_congr)
open Sx (Sb five)
open Wd (Cr)
theorem cols_get {os : List Cr} {k : Nat} (h : k < os.length) : (Wd.cols os).getD k Co.none_ = (os.getD k default).C := by
  unfold Wd.cols
  rw [List.getD_eq_getElem?_getD, List.getElem?_map, List.getElem?_eq_getElem h, List.getD_eq_getElem?_getD, List.getElem?_eq_getElem h]
  rfl
theorem cols_ext {os ps : List Cr} (hl : os.length = ps.length) (h : ∀ j, j < os.length → (os.getD j default).C = (ps.getD j default).C) : Wd.cols os = Wd.cols ps := by
  apply List.ext_getElem
  · rw [Wd.cols_len, Wd.cols_len, hl]
  · intro i h1 h2
    rw [Wd.cols_len] at h1 h2
    have a := cols_get h1
    have b := cols_get h2
    rw [List.getD_eq_getElem?_getD, List.getElem?_eq_getElem (by rw [Wd.cols_len]; exact h1)] at a
    rw [List.getD_eq_getElem?_getD, List.getElem?_eq_getElem (by rw [Wd.cols_len]; exact h2)] at b
    exact a.trans ((h i h1).trans b.symm)
set_option maxHeartbeats 8000000 in
theorem refSame_any (OA : Option Addr) (on oc : Nat) (CA : Option Addr) (cn cc : Nat) (os : List Cr) (x : Seg) (PA : Option Addr) (pn pc : Nat) (DA : Option Addr) (dn dc : Nat) (ps : List Cr) (y : Seg) (w : World) (hX : Sg w OA on oc CA cn cc os x) (hY : Sg w PA pn pc DA dn dc ps y) :
    Calls Tryz.prog 13 #[.agg #[.int .i64 x.part, .int .i64 x.id, .int .i64 x.st, .int .i64 x.en, .slice OA on oc, .slice CA cn cc], .agg #[.int .i64 y.part, .int .i64 y.id, .int .i64 y.st, .int .i64 y.en, .slice PA pn pc, .slice DA dn dc]] w fun e w' => e = .returned (.bool (tr (x = y))) ∧ Below w.heap.size w w' := by
  obtain ⟨w1, hw1⟩ : ∃ w1, w1 = (w.alloc (.cells #[.int .i64 x.part, .int .i64 x.id, .int .i64 x.st, .int .i64 x.en, .slice OA on oc, .slice CA cn cc] 28)).alloc (.cells #[.int .i64 y.part, .int .i64 y.id, .int .i64 y.st, .int .i64 y.en, .slice PA pn pc, .slice DA dn dc] 28) := ⟨_, rfl⟩
  have z1 : (w.alloc (.cells #[.int .i64 x.part, .int .i64 x.id, .int .i64 x.st, .int .i64 x.en, .slice OA on oc, .slice CA cn cc] 28)).heap.size = w.heap.size + 1 := by simp
  have x1 : Gb w1 w.heap.size x.part x.id x.st x.en OA on oc CA cn cc := by rw [hw1]; exact (Gb.new w x.part x.id x.st x.en OA on oc CA cn cc).alloc _
  have y1 : Gb w1 (w.heap.size + 1) y.part y.id y.st y.en PA pn pc DA dn dc := by
    have := Gb.new (w.alloc (.cells #[.int .i64 x.part, .int .i64 x.id, .int .i64 x.st, .int .i64 x.en, .slice OA on oc, .slice CA cn cc] 28)) y.part y.id y.st y.en PA pn pc DA dn dc
    rw [z1] at this
    rw [hw1]
    exact this
  have hb1 : Below w.heap.size w w1 := by rw [hw1]; exact ((Below.refl _ _).alloc (Nat.le_refl _) _).alloc (by simp) _
  obtain ⟨d0, d1, d2, d3, d4, d5⟩ := Gb.six x1
  obtain ⟨e0, e1, e2, e3, e4, e5⟩ := Gb.six y1
  have HX := Lib.hid hX
  have HY := Lib.hid hY
  have X1 := Lib.hid x1
  have Y1 := Lib.hid y1
  have Hb1 := Lib.hid hb1
  have Hw1 := Lib.hid hw1
  have Hcn := Lib.hid hX.cols.len
  have Hdn := Lib.hid hY.cols.len
  have Ci := Lib.hid ((Nc.ints_any OA PA on pn oc pc x.offs y.offs w1 (hX.below hb1).offs (hY.below hb1).offs).mono (R' := fun e w' => e = .returned (.bool (decide (x.offs = y.offs))) ∧ Below w1.heap.size w1 w') fun e w' h => ⟨h.1, by obtain ⟨q, rfl⟩ := h.2; exact Wd.below_drewN (Below.refl _ _) q⟩)
  obtain ⟨r, hr⟩ : ∃ r, r = tr (x = y) := ⟨_, rfl⟩
  rw [← hr]
  have Hno := Lib.hid (fun (h : ¬ x = y) => (by rw [hr]; exact tr_no h : r = false))
  have Hyes := Lib.hid (fun (h : x = y) => (by rw [hr]; exact tr_yes h : r = true))
  clear hr hX hY x1 y1 hb1 hw1 z1
  go_enter Tryz.func13, Tryz.ntmps13
  go_upto_region 1 with fail
  rw [← Hw1.out]
  by_cases h0 : x.offs = y.offs
  case neg =>
    have t1 := Lib.hid (decide_eq_false h0)
    have q := Lib.hid (Hno.out fun z => h0 (by rw [z]))
    clear h0
    go_wp2_with fail
    refine Ci.out.mono ?_
    rintro e w2 ⟨rfl, hB2⟩
    rw [t1.out]
    have H2 := Lib.hid (Hb1.out.trans (hB2.mono Hb1.out.size))
    clear hB2 Ci d0 d1 d2 d3 d4 d5 e0 e1 e2 e3 e4 e5
    go_wp2_with fail
    go_ret
    exact ⟨by rw [q.out]; rfl, H2.out⟩
  have t1 := Lib.hid (decide_eq_true h0)
  have P0 := Lib.hid h0
  clear h0
  go_wp2_with fail
  refine Ci.out.mono ?_
  rintro e w2 ⟨rfl, hB2⟩
  rw [t1.out]
  have H2 := Lib.hid (Hb1.out.trans (hB2.mono Hb1.out.size))
  have X2 := Lib.hid (X1.out.below X1.out.lt hB2)
  have Y2 := Lib.hid (Y1.out.below Y1.out.lt hB2)
  clear hB2 Ci d0 d1 d2 d3 d4 d5 e0 e1 e2 e3 e4 e5
  obtain ⟨d0, d1, d2, d3, d4, d5⟩ := Gb.six X2.out
  obtain ⟨e0, e1, e2, e3, e4, e5⟩ := Gb.six Y2.out
  by_cases h1 : x.part = y.part
  case neg =>
    have q1 : (x.part != y.part) = true := by simpa using h1
    have q := Lib.hid (Hno.out fun z => h1 (by rw [z]))
    go_wp2_with fail
    go_ret
    exact ⟨by rw [q.out]; rfl, H2.out⟩
  have q1 : (x.part != y.part) = false := by simpa using h1
  have P1 := Lib.hid h1
  clear h1
  by_cases h2 : x.id = y.id
  case neg =>
    have q2 : (x.id != y.id) = true := by simpa using h2
    have q := Lib.hid (Hno.out fun z => h2 (by rw [z]))
    go_wp2_with fail
    go_ret
    exact ⟨by rw [q.out]; rfl, H2.out⟩
  have q2 : (x.id != y.id) = false := by simpa using h2
  have P2 := Lib.hid h2
  clear h2
  by_cases h3 : x.st = y.st
  case neg =>
    have q3 : (x.st != y.st) = true := by simpa using h3
    have q := Lib.hid (Hno.out fun z => h3 (by rw [z]))
    go_wp2_with fail
    go_ret
    exact ⟨by rw [q.out]; rfl, H2.out⟩
  have q3 : (x.st != y.st) = false := by simpa using h3
  have P3 := Lib.hid h3
  clear h3
  by_cases h4 : x.en = y.en
  case neg =>
    have q4 : (x.en != y.en) = true := by simpa using h4
    have q := Lib.hid (Hno.out fun z => h4 (by rw [z]))
    go_wp2_with fail
    go_ret
    exact ⟨by rw [q.out]; rfl, H2.out⟩
  have q4 : (x.en != y.en) = false := by simpa using h4
  have P4 := Lib.hid h4
  clear h4
  by_cases h5 : cn = dn
  case neg =>
    have q5 : ((cn : Int) != (dn : Int)) = true := by simp; omega
    have q := Lib.hid (Hno.out fun z => h5 (by
      have := congrArg (fun g => g.cols.length) z
      simp only [HX.out.eq, HY.out.eq, Wd.cols_len] at this
      rw [Hcn.out, Hdn.out, this]))
    clear h5
    go_wp2_with fail
    go_ret
    exact ⟨by rw [q.out]; rfl, H2.out⟩
  subst h5
  have q5 : ((cn : Int) != (cn : Int)) = false := by simp
  go_wp2_with fail
  clear q1 q2 q3 q4 q5 d0 d1 d2 d3 d4 d5 e0 e1 e2 e3 e4 e5
  go_loopw [6] (fun i wr => ∃ k : Nat, i = .int .i64 k ∧ k ≤ cn ∧ Hid ((∀ j, j < k → (os.getD j default).C = (ps.getD j default).C) ∧ Below w2.heap.size w2 wr)) (fun i _ => cn - (intOf i).toNat)
  case atStart => exact ⟨0, rfl, Nat.zero_le _, Lib.hid ⟨fun j hj => by omega, Below.refl _ _⟩⟩
  case round =>
    obtain ⟨k, rfl, hk, hI⟩ := hrel
    have d5 := (Gb.six (X2.out.below X2.out.lt hI.out.2)).2.2.2.2.2
    have e5 := (Gb.six (Y2.out.below Y2.out.lt hI.out.2)).2.2.2.2.2
    by_cases hltk : k < cn
    · have hkI : (k : Int) < (cn : Int) := by omega
      have hbw : Below w.heap.size w wr := H2.out.trans (hI.out.2.mono H2.out.size)
      have hko : k < os.length := by rw [← Hcn.out]; exact hltk
      have hkp : k < ps.length := by rw [← Hdn.out]; exact hltk
      obtain ⟨b, f, hA, _, c0, c1, c2, hC⟩ := (HX.out.cols.below hbw).cells hko rfl
      obtain ⟨b', f', hA', _, u0, u1, u2, hD⟩ := (HY.out.cols.below hbw).cells hkp rfl
      have hcap := HX.out.cols.cap
      have hmax := HX.out.cols.max
      have hcap' := HY.out.cols.cap
      have hmax' := HY.out.cols.max
      unfold maxLen at hmax hmax'
      subst hA
      subst hA'
      have hbad := fun (h : ¬ (os.getD k default).C = (ps.getD k default).C) => Hno.out fun z => h (by
          rw [← cols_get hko, ← cols_get hkp, ← HX.out.eq, ← HY.out.eq, z])
      obtain ⟨o, ho⟩ : ∃ o, o = os.getD k default := ⟨_, rfl⟩
      obtain ⟨p, hp⟩ : ∃ p, p = ps.getD k default := ⟨_, rfl⟩
      rw [← ho] at c0 c1 c2 hC hbad
      rw [← hp] at u0 u1 u2 hD hbad
      have Cs := Lib.hid (fun W (hb : Below wr.heap.size wr W) => Cx.sameC_any o.A o.n o.c o.B o.m o.d o.C p.A p.n p.c p.B p.m p.d p.C W (hC.below hb) (hD.below hb))
      have Ho := Lib.hid ho
      have Hp := Lib.hid hp
      have Hbad := Lib.hid hbad
      have bk : ∀ {W : World} {a : Addr} {v : Value}, Below wr.heap.size wr W → wr.cell? a = some v → W.cell? a = some v := fun {W a v} hb hc => (hb.cell (World.block_lt_of_cell? wr a hc)).trans hc
      have ZZ := Lib.hid (fun (W : World) (hb : Below wr.heap.size wr W) => (show W.cell? ⟨w.heap.size, 5, none⟩ = some (.slice (some ⟨b, f, none⟩) cn cc) ∧ W.cell? ⟨w.heap.size + 1, 5, none⟩ = some (.slice (some ⟨b', f', none⟩) cn dc) ∧ W.cell? ⟨b, f + k * 3, none⟩ = some (.int .i64 o.C.n) ∧ W.cell? ⟨b, f + k * 3 + 1, none⟩ = some (.slice o.A o.n o.c) ∧ W.cell? ⟨b, f + k * 3 + 2, none⟩ = some (.slice o.B o.m o.d) ∧ W.cell? ⟨b', f' + k * 3, none⟩ = some (.int .i64 p.C.n) ∧ W.cell? ⟨b', f' + k * 3 + 1, none⟩ = some (.slice p.A p.n p.c) ∧ W.cell? ⟨b', f' + k * 3 + 2, none⟩ = some (.slice p.B p.m p.d) from
        ⟨bk hb d5, bk hb e5, bk hb c0, bk hb c1, bk hb c2, bk hb u0, bk hb u1, bk hb u2⟩))
      obtain ⟨fv, hfv⟩ : ∃ fv, fv = tr (o.C = p.C) := ⟨_, rfl⟩
      rw [← hfv] at Cs
      have Hfv := Lib.hid hfv
      have HI := Lib.hid hI.out
      clear hbad ho hp hko hkp hC hD hbw bk hfv hI e5 c0 c1 c2 u0 u1 u2
      go_upto_region 7 with fail
      go_cut [7] (fun v wz => v = .bool fv ∧ Below wr.heap.size wr wz)
      case first =>
        have hb : Below wr.heap.size wr wr.drew := (Below.refl _ _).drew
        have z10 := ZZ.out wr.drew hb
        go_region_held3 (fun W => W.cell? ⟨w.heap.size, 5, none⟩ = some (.slice (some ⟨b, f, none⟩) cn cc) ∧ W.cell? ⟨w.heap.size + 1, 5, none⟩ = some (.slice (some ⟨b', f', none⟩) cn dc) ∧ W.cell? ⟨b, f + k * 3, none⟩ = some (.int .i64 o.C.n) ∧ W.cell? ⟨b, f + k * 3 + 1, none⟩ = some (.slice o.A o.n o.c) ∧ W.cell? ⟨b, f + k * 3 + 2, none⟩ = some (.slice o.B o.m o.d) ∧ W.cell? ⟨b', f' + k * 3, none⟩ = some (.int .i64 p.C.n) ∧ W.cell? ⟨b', f' + k * 3 + 1, none⟩ = some (.slice p.A p.n p.c) ∧ W.cell? ⟨b', f' + k * 3 + 2, none⟩ = some (.slice p.B p.m p.d)) (with_reducible first | exact z10) (first
          | (go_at_call 31; (with_reducible refine (Cs.out _ hb).mono ?_); rintro e w5 ⟨rfl, hB5⟩; have hb := hb.trans (hB5.mono hb.size); have z10 := ZZ.out _ hb))
        all_goals (
          go_wp2_with fail
          go_meet
          exact ⟨rfl, hb⟩)
      case rest =>
        obtain ⟨rfl, hbc⟩ := hcut
        have Hb5 := Lib.hid (HI.out.2.trans (hbc.mono HI.out.2.size))
        clear hbc ZZ Cs
        by_cases hv : o.C = p.C
        · obtain rfl : fv = true := by rw [Hfv.out]; exact tr_yes hv
          have I6 := Lib.hid (show (∀ j, j < k + 1 → (os.getD j default).C = (ps.getD j default).C) ∧ Below w2.heap.size w2 wc from ⟨fun j h1 => by
            by_cases z : j = k
            · rw [z, ← Ho.out, ← Hp.out]; exact hv
            · exact HI.out.1 j (by omega), Hb5.out⟩)
          clear HI hv
          go_wp2_with fail
          go_roundw
          case rel => exact ⟨k + 1, by go_num, by omega, I6⟩
          case measure => simp [intOf]; omega
        · obtain rfl : fv = false := by rw [Hfv.out]; exact tr_no hv
          have t2 := Lib.hid (Hbad.out hv)
          clear HI hv
          go_wp2_with fail
          go_ret
          exact ⟨by rw [t2.out]; rfl, H2.out.trans (Hb5.out.mono H2.out.size)⟩
    · have hkI : ¬ (k : Int) < (cn : Int) := by omega
      have t6 := Lib.hid (Hyes.out (Seg.ext' P1.out P2.out P3.out P4.out P0.out (by
        rw [HX.out.eq, HY.out.eq]
        exact cols_ext (by rw [← Hcn.out, ← Hdn.out]) fun j hj => hI.out.1 j (by have := Hcn.out; omega))))
      have H3 := Lib.hid (H2.out.trans (hI.out.2.mono H2.out.size))
      clear hI
      go_wp2_with fail
      go_ret
      exact ⟨by rw [t6.out]; rfl, H3.out⟩
end Se
end Go.Proofs.YtaoeipehpakngaaGreatDoor
namespace Go.Proofs.YtaoeipehpakngaaGreatDoor
set_option maxRecDepth 20000
open Go.RowKit Go.ChangeShapes Go.WideShapes
namespace Wd
open Va (Vl)
structure Rcd where
  rA : Option Addr
  rn : Nat
  rc : Nat
  row : List Vl
  off : Int
instance : Inhabited Rcd := ⟨⟨none, 0, 0, [], 0⟩⟩
section
variable {w w' : World} {A : Option Addr} {n c : Nat} {os : List Rcd} {o : Rcd}
end
section
variable {H : Type} {enc : TypeId × Value → H} {P : Program} {W : World} {r : Reach} {base0 base : Nat} {spare : Nat → Bool} {held : Bool}
end
end Wd
end Go.Proofs.YtaoeipehpakngaaGreatDoor
namespace Go.Proofs.YtaoeipehpakngaaGreatDoor
set_option maxRecDepth 20000
open Go.RowKit Go.Shelf
namespace Fi
open Wd (Cr)
open Sc (Sch MayS tr tr_yes)
open Sx (five)
theorem new0 (w : World) : Calls Tryz.prog 238 #[.int .i64 4096] w fun e w' => e = .returned (.pointer (some ⟨w.heap.size + 1, 0, none⟩)) ∧ w' = (w.alloc (.map #[] 0)).alloc (.cells #[.int .i64 4096, .map (some w.heap.size), .slice none 0 0] 274) := by
  have hmm := @run_makeMap Tryz.prog
  go_enter Tryz.func238, Tryz.ntmps238
  go_wp2_with fail
  go_ret
  exact ⟨rfl, rfl⟩
theorem clone0 (w : World) : Calls Tryz.prog 256 #[.slice none 0 0] w fun e w' => e = .returned (.slice none 0 0) ∧ w' = w := by
  have hnil : ∀ (w : World) (n c : Nat), (binOp .eql 48 (.slice none n c) (.slice none 0 0)).run Tryz.prog w = .ok (.bool true) w := fun _ _ _ => by kernel_rfl
  go_enter Tryz.func256, Tryz.ntmps256
  go_wp2
  go_ret
  exact ⟨rfl, rfl⟩
theorem make0 : ∃ zc : Array Value, ∀ X : World, (Instr.makeSlice 25 (.int .i64 0) (.int .i64 0)).run Tryz.prog X = .ok (.slice (some ⟨X.heap.size, 0, none⟩) 0 0) (X.alloc (.cells zc 3)) := by
  obtain ⟨i0, hi, hz0, hz1, hz2⟩ := info_parts Dx.info_i
  exact ⟨_, fun X => run_make (P := Tryz.prog) X 25 3 i0 _ Tryz.underlying25 hi hz0 .i64 .i64 0 0 (by omega) (by omega) (by rw [hz2]; omega) (by omega)⟩
theorem ins0 (p : Option Addr) (c : Nat) (fv : Value) (w : World) :
    Calls Tryz.prog 236 #[.slice p 0 c, .int .i64 0, .int .i64 0, fv] w fun e w' => e = .returned (.tuple #[]) ∧ w' = w := by
  go_enter Tryz.func236, Tryz.ntmps236
  go_wp2
  refine wp_loop_rounds 1 ?_
  rw [rounds_succ]
  go_wp2
  go_end0
  exact ⟨rfl, rfl⟩
theorem stable0 (p : Option Addr) (c : Nat) (fv : Value) (w : World) :
    Calls Tryz.prog 200 #[.slice p 0 c, .int .i64 0, fv] w fun e w' => e = .returned (.tuple #[]) ∧ w' = w := by
  have hi := Lib.hid fun W => ins0 p c fv W
  go_enter Tryz.func200, Tryz.ntmps200
  go_wp2
  refine wp_loop_rounds 1 ?_
  rw [rounds_succ]
  go_wp2_with (go_at_call 236; refine (hi.out _).mono ?_; rintro e w' ⟨rfl, rfl⟩)
  refine wp_loop_rounds 1 ?_
  rw [rounds_succ]
  go_wp2
  go_end0
  exact ⟨rfl, rfl⟩
theorem sort0 (p : Option Addr) (c : Nat) (fv : Value) (w : World) :
    Calls Tryz.prog 155 #[.slice p 0 c, fv] w fun e w' => e = .returned (.tuple #[]) ∧ w' = w := by
  have hi := Lib.hid fun W => stable0 p c fv W
  go_enter Tryz.func155, Tryz.ntmps155
  go_wp2_with (go_at_call 200; refine (hi.out _).mono ?_; rintro e w' ⟨rfl, rfl⟩)
  go_end0
  exact ⟨rfl, rfl⟩
theorem sorted0 (d : Nat) (x y : Value) (w : World) (h : Wd.Bx w d 274 #[x, y, .slice none 0 0]) :
    Calls Tryz.prog 240 #[.pointer (some ⟨d, 0, none⟩)] w fun e w' => ∃ B, e = .returned (.tuple #[.slice none 0 0, .slice B 0 0]) ∧ Below w.heap.size w w' := by
  obtain ⟨zc, hmk⟩ := make0
  have c2 := h.cell 2
  simp at c2
  have c3 : (w.alloc (.cells zc 3)).cell? ⟨d, 2, none⟩ = some (.slice none 0 0) := by
    have := (h.alloc (.cells zc 3)).cell 2
    simpa using this
  have Cc := Lib.hid fun W => clone0 W
  have Cs := Lib.hid fun fv W => Ds.sort_none none 0 fv W
  clear h
  go_enter Tryz.func240, Tryz.ntmps240
  go_wp2_with (first | (go_at_call 256; refine (Cc.out _).mono ?_; rintro e w' ⟨rfl, rfl⟩) | (go_at_call 257; refine (Cs.out _ _).mono ?_; rintro e w' ⟨rfl, rfl⟩))
  refine wp_loop_rounds 1 ?_
  rw [rounds_succ]
  go_wp2_with fail
  go_ret2
  exact ⟨_, rfl, (Below.refl _ _).alloc (Nat.le_refl _) _⟩
theorem number0 (A : Option Addr) (c : Nat) (w : World) :
    Calls Tryz.prog 201 #[.slice A 0 c] w fun e w' => ∃ B, e = .returned (.tuple #[.slice none 0 0, .slice B 0 0, .int .i64 0]) ∧ Below w.heap.size w w' := by
  obtain ⟨zc, hmk⟩ := make0
  have Cn := Lib.hid fun W => new0 W
  go_enter Tryz.func201, Tryz.ntmps201
  go_upto_region 1 with fail
  go_cut [5, 6] (fun u v wx => ∃ d B y, u = .pointer (some ⟨d, 0, none⟩) ∧ v = .slice B 0 0 ∧ Hid (Wd.Bx wx d 274 #[.int .i64 4096, y, .slice none 0 0] ∧ Below w.heap.size w wx))
  case first =>
    go_region_with (go_at_call 238; refine (Cn.out _).mono ?_; rintro e w5 ⟨rfl, rfl⟩)
    all_goals (
      go_wp2_with fail
      go_meet)
    · have h := Wd.Bx.new (w.alloc (.map #[] 0)) 274 #[.int .i64 4096, .map (some w.heap.size), .slice none 0 0]
      rw [World.size_alloc] at h
      exact ⟨_, _, _, rfl, rfl, Lib.hid ⟨(h.alloc _).drew, ((((Below.refl _ _).alloc (Nat.le_refl _) _).alloc (by simp) _).alloc (by simp; omega) _).drew⟩⟩
    · have h := Wd.Bx.new ((w.alloc (.cells zc 3)).alloc (.map #[] 0)) 274 #[.int .i64 4096, .map (some (w.heap.size + 1)), .slice none 0 0]
      rw [World.size_alloc, World.size_alloc] at h
      exact ⟨_, _, _, rfl, rfl, Lib.hid ⟨h.drew, ((((Below.refl _ _).alloc (Nat.le_refl _) _).alloc (by simp) _).alloc (by simp; omega) _).drew⟩⟩
  case rest =>
    obtain ⟨d, B, y, rfl, rfl, hI⟩ := hcut
    clear Cn hmk zc
    go_wp2_with fail
    refine wp_loop_rounds 1 ?_
    rw [rounds_succ]
    have Cs := Lib.hid (sorted0 d _ _ wc hI.out.1)
    go_wp2_with fail
    refine Cs.out.mono ?_
    rintro e w2 ⟨B2, rfl, hB2⟩
    go_wp2_with fail
    refine wp_loop_rounds 1 ?_
    rw [rounds_succ]
    go_wp2_with fail
    go_ret3
    exact ⟨_, rfl, hI.out.2.trans (hB2.mono hI.out.2.size)⟩
theorem pass0 (A : Option Addr) (c : Nat) (fv : Value) (w : World) :
    Calls Tryz.prog 241 #[.slice A 0 c, .int .i64 0, fv] w fun e w' => e = .returned (.tuple #[]) ∧ w' = w := by
  go_enter Tryz.func241, Tryz.ntmps241
  go_wp2
  refine wp_loop_rounds 1 ?_
  rw [rounds_succ]
  go_wp2
  go_end0
  exact ⟨rfl, rfl⟩
theorem makeB : ∃ zc : Array Value, ∀ X : World, (Instr.makeSlice 32 (.int .i64 0) (.int .i64 0)).run Tryz.prog X = .ok (.slice (some ⟨X.heap.size, 0, none⟩) 0 0) (X.alloc (.cells zc 5)) := by
  obtain ⟨i0, hi, hz0, hz1, hz2⟩ := info_parts Bc.info_u8
  exact ⟨_, fun X => run_make (P := Tryz.prog) X 32 5 i0 _ Tryz.underlying32 hi hz0 .i64 .i64 0 0 (by omega) (by omega) (by rw [hz2]; omega) (by omega)⟩
theorem pack0 (A : Option Addr) (c : Nat) (w : World) :
    Calls Tryz.prog 202 #[.slice A 0 c, .int .i64 0] w fun e w' => ∃ B, e = .returned (.tuple #[.slice B 0 0, .int .i64 0]) ∧ Below w.heap.size w w' := by
  obtain ⟨zc, hmk⟩ := makeB
  have hmf : ∀ (fn : Fn) (first cap : Array Value) (w : World), (Instr.makeFunc fn first cap).run Tryz.prog w = .ok (.func fn first cap) w := fun _ _ _ _ => rfl
  have C1 := Lib.hid fun W => Bc.isWidth_yes 0 W (by omega) (by omega)
  have C2 := Lib.hid fun W => Bc.bytesFor_any 0 0 W (by omega) (by omega)
  have C3 := Lib.hid fun fv W => pass0 A c fv W
  go_enter Tryz.func202, Tryz.ntmps202
  go_wp2_with fail
  refine (C1.out _).mono ?_
  rintro e w' ⟨rfl, rfl⟩
  go_wp2_with fail
  refine wp_loop_rounds 1 ?_
  rw [rounds_succ]
  go_wp2_with fail
  refine (C2.out _).mono ?_
  rintro e w' ⟨rfl, rfl⟩
  go_wp2_with fail
  refine (C3.out _ _).mono ?_
  rintro e w' ⟨rfl, rfl⟩
  go_wp2_with fail
  go_ret2
  exact ⟨_, rfl, (((Below.refl _ _).alloc (Nat.le_refl _) _).alloc (by simp) _).alloc (by simp; omega) _⟩
set_option maxHeartbeats 4000000 in
theorem cbuild0 (A : Option Addr) (c : Nat) (w : World) :
    Calls Tryz.prog 157 #[.slice A 0 c] w fun e w' => ∃ B, e = .returned (.tuple #[.agg #[.int .i64 0, .slice none 0 0, .slice B 0 0], .int .i64 0]) ∧ Below w.heap.size w w' := by
  have hb0 := (Below.refl w.heap.size w).alloc (Nat.le_refl _) (.cells #[.int .i64 0, .slice none 0 0, .slice none 0 0] 57)
  have x0 := Cx.Cb.new w 0 none 0 0 none 0 0
  obtain ⟨wa, hwa⟩ : ∃ wa, wa = w.alloc (.cells #[.int .i64 0, .slice none 0 0, .slice none 0 0] 57) := ⟨_, rfl⟩
  rw [← hwa] at x0 hb0
  have Hwa := Lib.hid hwa
  have C1 := Lib.hid (number0 A c wa)
  have C2 := Lib.hid fun W => Cx.cwidth_any 0 (by omega) W
  have C3 := Lib.hid fun R d W => pack0 R d W
  rw [show Bc.wid (((0 : Nat) : Int) - 1) = 0 from Bc.wid_lo _ (by decide)] at C2
  clear hwa
  go_enter Tryz.func157, Tryz.ntmps157
  go_wp2_with fail
  rw [← Hwa.out]
  refine C1.out.mono ?_
  rintro e w1 ⟨B1, rfl, hB1⟩
  go_wp2_with fail
  refine (C2.out _).mono ?_
  rintro e w2 ⟨rfl, hq⟩
  have hq' := hq.symm
  clear hq
  subst hq'
  go_wp2_with fail
  refine (C3.out _ _ _).mono ?_
  rintro e w3 ⟨B3, rfl, hB3⟩
  have hb3 := hb0.trans ((hB1.trans (hB3.mono hB1.size)).mono hb0.size)
  have y3 := x0.below x0.lt (hB1.trans (hB3.mono hB1.size))
  have z0 := y3.c0
  have z1 := y3.c1
  have z2 := y3.c2
  have f0 := y3.bx.free 0
  have f1 := y3.bx.free 1
  have f2 := y3.bx.free 2
  have Hx := Lib.hid (Cx.box3 (x := .int .i64 0) (y := .slice none 0 0) (z := .slice B3 0 0) y3.bx)
  go_wp2_with fail
  have g0 := Hx.out.cell 0
  have g1 := Hx.out.cell 1
  have g2 := Hx.out.cell 2
  refine bodyPost_ret (v := .tuple #[.agg #[.int .i64 0, .slice none 0 0, .slice B3 0 0], .int .i64 0]) ?_ rfl ⟨B3, rfl, ((hb3.setCell (Nat.le_refl _) _).setCell (Nat.le_refl _) _).setCell (Nat.le_refl _) _⟩
  rw [Cx.res_cell2 rfl]; go_simp
set_option maxHeartbeats 4000000 in
theorem arrange0 (A : Option Addr) (n c : Nat) (k1 k2 k3 k4 : Int) (w : World) :
    Calls Tryz.prog 106 #[.agg #[.slice A n c, .int .i64 k1, .int .i64 k2, .int .i64 k3, .int .i64 k4], .slice none 0 0] w fun e w' => ∃ Q, e = .returned (.slice Q 0 0) ∧ Below w.heap.size w w' := by
  obtain ⟨zc, hmk⟩ := make0
  have hmf : ∀ (fn : Fn) (first cap : Array Value) (w : World), (Instr.makeFunc fn first cap).run Tryz.prog w = .ok (.func fn first cap) w := fun _ _ _ _ => rfl
  have Cs := Lib.hid fun p fv W => sort0 p 0 fv W
  go_enter Tryz.func106, Tryz.ntmps106
  go_wp2_with fail
  refine wp_loop_rounds 1 ?_
  rw [rounds_succ]
  go_wp2_with fail
  refine (Cs.out _ _ _).mono ?_
  rintro e w5 ⟨rfl, rfl⟩
  go_wp2_with fail
  go_ret
  exact ⟨_, rfl, (((Below.refl _ _).alloc (Nat.le_refl _) _).alloc (by simp) _).alloc (by simp; omega) _⟩
def ColJ (w0 w : World) (g N : Nat) : Prop := ∃ L : List Cr, L.length = N ∧ Wd.Bx w g 57 (Wd.flatC L).toArray ∧ w0.heap.size ≤ g ∧ Below w0.heap.size w0 w
set_option maxHeartbeats 8000000 in
theorem columns0 (N : Nat) (O : Option Addr) (oc : Nat) (w : World) (hN : N ≤ 1000000) :
    Calls Tryz.prog 107 #[.int .i64 (N : Int), .slice none 0 0, .slice O 0 oc] w fun e w' => ∃ K, e = .returned (.tuple #[.slice K N N, .int .i64 0]) ∧ Below w.heap.size w w' := by
  obtain ⟨i0, hi, hz0, hz1, hz2⟩ := info_parts Wd.info_col
  obtain ⟨j0, hj, gz0, gz1, gz2⟩ := info_parts Wd.info_vl
  obtain ⟨zc, hzc⟩ : ∃ zc : Array Value, zc = (Wd.flatC (List.replicate N default)).toArray := ⟨_, rfl⟩
  have hmk : ∀ X : World, (Instr.makeSlice 26 (.int .i64 (N : Int)) (.int .i64 (N : Int))).run Tryz.prog X = .ok (.slice (some ⟨X.heap.size, 0, none⟩) N N) (X.alloc (.cells zc 57)) := fun X => by
    have := run_make (P := Tryz.prog) X 26 57 i0 _ Tryz.underlying26 hi hz0 .i64 .i64 (N : Int) (N : Int) (by omega) (by omega) (by rw [hz2]; omega) (by omega)
    rw [this, hzc, hz1, Int.toNat_natCast, ← Wd.made_col]
  obtain ⟨zv, hmv⟩ : ∃ zv : Array Value, ∀ X : World, (Instr.makeSlice 48 (.int .i64 0) (.int .i64 0)).run Tryz.prog X = .ok (.slice (some ⟨X.heap.size, 0, none⟩) 0 0) (X.alloc (.cells zv 47)) :=
    ⟨_, fun X => run_make (P := Tryz.prog) X 48 47 j0 _ Tryz.underlying48 hj gz0 .i64 .i64 0 0 (by omega) (by omega) (by rw [gz2]; omega) (by omega)⟩
  have rowc := Lib.hid fun X : World => (by rw [hzc]; exact Wd.Bx.new X _ _ : Wd.Bx (X.alloc (.cells zc 57)) X.heap.size 57 (Wd.flatC (List.replicate N default)).toArray)
  clear hzc
  go_enter Tryz.func107, Tryz.ntmps107
  go_upto_region 1 with fail
  go_cut [8, 9] (fun u v wx => ∃ g h, u = .slice (some ⟨g, 0, none⟩) N N ∧ v = .slice (some ⟨h, 0, none⟩) 0 0 ∧ Hid (ColJ w wx g N))
  case first =>
    go_region
    all_goals (
      go_wp2_with fail
      go_meet)
    · exact ⟨w.heap.size, w.heap.size + 1, rfl, rfl, Lib.hid ⟨List.replicate N default, by simp, ((rowc.out w).alloc _).drew, Nat.le_refl _, (((Below.refl _ _).alloc (Nat.le_refl _) _).alloc (by simp) _).drew⟩⟩
    · refine ⟨w.heap.size + 1, w.heap.size, rfl, rfl, Lib.hid ⟨List.replicate N default, by simp, ?_, by omega, (((Below.refl _ _).alloc (Nat.le_refl _) _).alloc (by simp) _).drew⟩⟩
      have := rowc.out (w.alloc (.cells zv 47))
      rw [World.size_alloc] at this
      exact this.drew
  case rest =>
    obtain ⟨g, h, rfl, rfl, hI⟩ := hcut
    clear rowc hmk hmv zc zv
    go_wp2_with fail
    go_loopw [22] (fun i wr => ∃ k : Nat, i = .int .i64 k ∧ k ≤ N ∧ Hid (ColJ w wr g N)) (fun i _ => N - (intOf i).toNat)
    case atStart => exact ⟨0, rfl, Nat.zero_le _, hI⟩
    case round =>
      clear hI
      obtain ⟨k, rfl, hk, hI⟩ := hrel
      by_cases hlt : k < N
      · have hkI : (k : Int) < (N : Int) := by omega
        have Cb := Lib.hid fun W => cbuild0 (some ⟨h, 0, none⟩) 0 W
        go_wp2_with fail
        refine wp_loop_rounds 1 ?_
        rw [rounds_succ]
        go_wp2_with fail
        refine (Cb.out _).mono ?_
        rintro e w5 ⟨B5, rfl, hB5⟩
        obtain ⟨L, h1, h2, h3, h4⟩ := hI.out
        have x6 := (h2.below h2.lt hB5).alloc (.cells #[.int .i64 0, .slice none 0 0, .slice B5 0 0] 57)
        have bx6 := Cx.Cb.new w5 0 none 0 0 B5 0 0
        have b6 := (h4.trans (hB5.mono h4.size)).alloc (Nat.le_trans h4.size hB5.size) (.cells #[.int .i64 0, .slice none 0 0, .slice B5 0 0] 57)
        go_upto_region 11 with fail
        generalize hw6 : w5.alloc (.cells #[.int .i64 0, .slice none 0 0, .slice B5 0 0] 57) = w6 at *
        clear hw6 h2 h4 hB5
        have hkL : k < L.length := by omega
        have hset := x6.set3 k hkL ⟨none, 0, 0, B5, 0, 0, ⟨0, [], []⟩⟩
        have b7 := ((b6.setCell (p := ⟨g, k * 3, none⟩) h3 (.int .i64 0)).setCell (p := ⟨g, k * 3 + 1, none⟩) h3 (.slice none 0 0)).setCell (p := ⟨g, k * 3 + 2, none⟩) h3 (.slice B5 0 0)
        have H7 := Lib.hid (show ColJ w _ g N from ⟨_, by simp [h1], hset, h3, b7⟩)
        have cc : ∀ (i : Nat) (u : Value), (L.getD k default).vals[i]? = some u → w6.cell? ⟨g, k * 3 + i, none⟩ = some u := fun i u hu => (x6.cell (k * 3 + i)).trans (by rw [List.getElem?_toArray]; exact Wd.flatC_get L k hkL i u hu)
        have q0 : w6.cell? ⟨g, k * 3, none⟩ = some (.int .i64 (L.getD k default).C.n) := cc 0 _ rfl
        have q1 : w6.cell? ⟨g, k * 3 + 1, none⟩ = some (.slice (L.getD k default).A (L.getD k default).n (L.getD k default).c) := cc 1 _ rfl
        have q2 : w6.cell? ⟨g, k * 3 + 2, none⟩ = some (.slice (L.getD k default).B (L.getD k default).m (L.getD k default).d) := cc 2 _ rfl
        generalize L.getD k default = lk at q0 q1 q2
        have g0 := x6.free (k * 3)
        have g1 := x6.free (k * 3 + 1)
        have g2 := x6.free (k * 3 + 2)
        have r0 := bx6.c0
        have r1 := bx6.c1
        have r2 := bx6.c2
        clear cc hset b7 b6 x6 bx6 hkL h1
        go_wp2_with fail
        go_roundw
        case rel => exact ⟨k + 1, by go_num, by omega, H7⟩
        case measure => simp [intOf]; omega
      · have hkI : ¬ (k : Int) < (N : Int) := by omega
        go_wp2_with fail
        go_ret2
        obtain ⟨L, h1, h2, h3, h4⟩ := hI.out
        exact ⟨⟨_, rfl⟩, h4⟩
set_option maxHeartbeats 8000000 in
theorem build0 (A : Option Addr) (n c : Nat) (s : Sch) (w : World) (hS : Wd.Cs w A n c s.cols) (hm : MayS s) (hn : n ≤ 1000000) :
    Calls Tryz.prog 63 #[.agg #[.slice A n c, .int .i64 s.key, .int .i64 s.cmp, .int .i64 s.del, .int .i64 s.sort], .agg #[.int .i64 0, .int .i64 1, .int .i64 0, .int .i64 0, .slice none 0 0, .slice none 0 0], .slice none 0 0, .slice none 0 0] w fun e w' =>
      ∃ K Q, e = .returned (.tuple #[.agg #[.int .i64 0, .int .i64 1, .int .i64 0, .int .i64 0, .slice none 0 0, .slice K n n], .slice Q 0 0, .int .i64 0]) ∧ Below w.heap.size w w' := by
  obtain ⟨w1, hw1⟩ : ∃ w1, w1 = ((w.alloc (.cells #[.slice A n c, .int .i64 s.key, .int .i64 s.cmp, .int .i64 s.del, .int .i64 s.sort] 24)).alloc (.cells #[.int .i64 0, .int .i64 1, .int .i64 0, .int .i64 0, .slice none 0 0, .slice none 0 0] 28)).alloc (.cells #[.int .i64 0, .int .i64 0, .int .i64 0, .int .i64 0, .slice none 0 0, .slice none 0 0] 28) := ⟨_, rfl⟩
  have hB1 : Se.Bs w w1 A n c s none 0 0 none 0 0 ⟨0, 1, 0, 0, [], []⟩ := by
    have z1 : (w.alloc (.cells #[.slice A n c, .int .i64 s.key, .int .i64 s.cmp, .int .i64 s.del, .int .i64 s.sort] 24)).heap.size = w.heap.size + 1 := by simp
    have z2 : ((w.alloc (.cells #[.slice A n c, .int .i64 s.key, .int .i64 s.cmp, .int .i64 s.del, .int .i64 s.sort] 24)).alloc (.cells #[.int .i64 0, .int .i64 1, .int .i64 0, .int .i64 0, .slice none 0 0, .slice none 0 0] 28)).heap.size = w.heap.size + 1 + 1 := by simp
    have g1 := Se.Gb.new (w.alloc (.cells #[.slice A n c, .int .i64 s.key, .int .i64 s.cmp, .int .i64 s.del, .int .i64 s.sort] 24)) 0 1 0 0 none 0 0 none 0 0
    have g2 := Se.Gb.new ((w.alloc (.cells #[.slice A n c, .int .i64 s.key, .int .i64 s.cmp, .int .i64 s.del, .int .i64 s.sort] 24)).alloc (.cells #[.int .i64 0, .int .i64 1, .int .i64 0, .int .i64 0, .slice none 0 0, .slice none 0 0] 28)) 0 0 0 0 none 0 0 none 0 0
    rw [z1] at g1
    rw [z2] at g2
    rw [hw1]
    exact ⟨((Wd.Bx.new w _ _).alloc _).alloc _, g1.alloc _, g2, (((Below.refl _ _).alloc (Nat.le_refl _) _).alloc (by simp) _).alloc (by simp; omega) _, by simp⟩
  have Hw1 := Lib.hid hw1
  have HB1 := Lib.hid hB1
  have HS := Lib.hid hS
  have Hm := Lib.hid hm
  have Hn := Lib.hid hS.len
  have Ch := Se.head_any none 0 0 none 0 0 ⟨0, 1, 0, 0, [], []⟩ w1
  rw [tr_yes (show Se.Head ⟨0, 1, 0, 0, [], []⟩ from ⟨by decide, by decide, by decide, by decide, by decide, by decide, by decide⟩)] at Ch
  have Ch := Lib.hid Ch
  obtain ⟨c0, c1, c2, c3, c4⟩ := five hB1.s
  obtain ⟨d0, d1, d2, d3, d4, d5⟩ := hB1.x.six
  clear hw1 hB1 hS hm
  go_enter Tryz.func63, Tryz.ntmps63
  go_upto_region 1 with fail
  rw [← Hw1.out]
  go_wp2_with fail
  refine Ch.out.mono ?_
  rintro e w2 ⟨rfl, hB2⟩
  have H2 := Lib.hid (HB1.out.below hB2)
  have C2 := Se.rise_any none 0 0 none 0 0 0 1 0 0 none 0 0 [] w2 (Wd.Sl.none_ _ _) (by decide) (by decide) (by decide)
  rw [tr_yes (show Se.Rise 0 0 [] from trivial)] at C2
  have C2 := Lib.hid C2
  obtain ⟨d0, d1, d2, d3, d4, d5⟩ := H2.out.x.six
  clear hB2 c0 c1 c2 c3 c4 Ch
  go_wp2_with fail
  refine C2.out.mono ?_
  rintro e w3 ⟨rfl, hB3⟩
  have H3 := Lib.hid (H2.out.below hB3)
  have C3 := Se.fit_any A n c s none 0 0 [] w3 (HS.out.below H3.out.b) (Wd.Ls.none_ _) hn
  rw [tr_yes (show Se.Fit s [] from ⟨Hm.out, fun r hr => by cases hr⟩)] at C3
  have C3 := Lib.hid C3
  obtain ⟨c0, c1, c2, c3, c4⟩ := five H3.out.s
  clear hB3 d0 d1 d2 d3 d4 d5 C2
  go_wp2_with fail
  refine C3.out.mono ?_
  rintro e w4 ⟨rfl, hB4⟩
  have H4 := Lib.hid (H3.out.below hB4)
  have Ca := Lib.hid fun W => arrange0 A n c s.key s.cmp s.del s.sort W
  clear hB4 c0 c1 c2 c3 c4 C3
  obtain ⟨c0, c1, c2, c3, c4⟩ := five H4.out.s
  go_wp2_with fail
  refine (Ca.out _).mono ?_
  rintro e w5 ⟨Q, rfl, hB5⟩
  have H5 := Lib.hid (H4.out.below hB5)
  have Cc := Lib.hid fun W => columns0 n Q 0 W hn
  clear hB5 c0 c1 c2 c3 c4 Ca
  obtain ⟨c0, c1, c2, c3, c4⟩ := five H5.out.s
  go_wp2_with fail
  refine (Cc.out _).mono ?_
  rintro e w6 ⟨K, rfl, hB6⟩
  have H6 := Lib.hid (H5.out.below hB6)
  clear hB6 c0 c1 c2 c3 c4 Cc
  obtain ⟨d0, d1, d2, d3, d4, d5⟩ := H6.out.x.six
  go_upto_region 10 with fail
  have x7 := Se.Gb.new w6 0 1 0 0 none 0 0 K n n
  have H7 := Lib.hid (H6.out.below ((Below.refl w6.heap.size w6).alloc (Nat.le_refl _) (.cells #[.int .i64 0, .int .i64 1, .int .i64 0, .int .i64 0, .slice none 0 0, .slice K n n] 28)))
  generalize w6.alloc (.cells #[.int .i64 0, .int .i64 1, .int .i64 0, .int .i64 0, .slice none 0 0, .slice K n n] 28) = w7 at *
  clear d0 d1 d2 d3 d4 d5
  go_wp2_with fail
  refine wp_loop_rounds 1 ?_
  rw [rounds_succ]
  obtain ⟨d0, d1, d2, d3, d4, d5⟩ := x7.six
  have hr := H7.out.r
  obtain ⟨u0, u1, u2, u3, u4, u5⟩ := Se.Gb.six hr
  have f0 := hr.free 0
  have f1 := hr.free 1
  have f2 := hr.free 2
  have f3 := hr.free 3
  have f4 := hr.free 4
  have f5 := hr.free 5
  have K6 := Lib.hid (Se.box6 (x0 := .int .i64 0) (x1 := .int .i64 1) (x2 := .int .i64 0) (x3 := .int .i64 0) (x4 := .slice none 0 0) (x5 := .slice K n n) hr)
  have B6 := Lib.hid (Se.below6 H7.out.b (p := w.heap.size + 1 + 1) (by omega) (.int .i64 0) (.int .i64 1) (.int .i64 0) (.int .i64 0) (.slice none 0 0) (.slice K n n))
  clear hr x7
  go_wp2_with fail
  have g0 := K6.out.cell 0
  have g1 := K6.out.cell 1
  have g2 := K6.out.cell 2
  have g3 := K6.out.cell 3
  have g4 := K6.out.cell 4
  have g5 := K6.out.cell 5
  refine bodyPost_ret (v := .tuple #[.agg #[.int .i64 0, .int .i64 1, .int .i64 0, .int .i64 0, .slice none 0 0, .slice K n n], .slice Q 0 0, .int .i64 0]) ?_ rfl ⟨_, _, rfl, B6.out⟩
  rw [Vc.res_cell3 rfl]; go_simp
end Fi
end Go.Proofs.YtaoeipehpakngaaGreatDoor
