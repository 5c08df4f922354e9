/- The walk of the statement SealRows of layer 12. -/
import Derived.Deep.RegionHeld3
import Derived.Deep.DeepCutAuto
import Derived.Test.YtoibpbnebcoafaaGreatPk42
import Derived.Test.YtoibpbnebcoafaaGreatPk44
import Derived.Test.YtoibpbnebcoafaaGreatPk39
import Derived.Test.YtoibpbnebcoafaaGreatPk11
namespace Go.Proofs.YtoibpbnebcoafaaGreat
set_option maxRecDepth 20000
open Go.RowKit
namespace Se
open Wd (Cr)
/-- The columns of a light segment are small. -/
theorem lt_light {w : World} {OA : Option Addr} {on oc : Nat} {CA : Option Addr} {cn cc : Nat} {os : List Cr} {x : Seg} (h : Sg w OA on oc CA cn cc os x) (hl : LightG x) : Lt os := by
  intro j hj
  obtain ⟨_, _, _, _, _, h1⟩ := h.cols.at_ j hj
  have hm : (os.getD j default).C ∈ x.cols := by
    rw [h.eq, ← Wd.cols_get, List.getD_eq_getElem?_getD, List.getElem?_eq_getElem (by rw [Wd.cols_len]; exact hj)]
    exact List.getElem_mem _
  have l := hl.2.2 _ hm
  have d := h1.dict.len
  have i := h1.ids.len
  have l1 := l.1
  have l2 := l.2.1
  exact ⟨by omega, by omega⟩
theorem has_neg {x : Seg} {i : Int} (h : i < 0 ∨ (x.offs.length : Int) ≤ i) : row x i = [] := row_no fun z => by
  have := z.1
  have := z.2.1
  omega
end Se
namespace Lw
open Se
open Va (Vl)
open Sc (Sch MayS FitS tr tr_yes tr_no tr_iff tr_congr)
open Sx (Sb five FewS)
open Wd (Cr)
set_option maxHeartbeats 8000000 in
theorem sealRows_walk (A : Option Addr) (n c : Nat) (s : Sch) (OA : Option Addr) (on oc : Nat) (CA : Option Addr) (cn cc : Nat) (os : List Cr) (x : Seg) (w : World) (hS : Wd.Cs w A n c s.cols) (_u : Wd.Sch1 s) (hX : Sg w OA on oc CA cn cc os x) :
    Calls Tryz.prog 8 #[.agg #[.slice A n c, .int .i64 s.key, .int .i64 s.cmp, .int .i64 s.del, .int .i64 s.sort], .agg #[.int .i64 x.part, .int .i64 x.id, .int .i64 x.st, .int .i64 x.en, .slice OA on oc, .slice CA cn cc]] w fun e w' => e = .returned (.bool true) ∧ Below w.heap.size w w' := by
  obtain ⟨w1, hw1⟩ : ∃ w1, w1 = (w.alloc (.cells #[.slice A n c, .int .i64 s.key, .int .i64 s.cmp, .int .i64 s.del, .int .i64 s.sort] 24)).alloc (.cells #[.int .i64 x.part, .int .i64 x.id, .int .i64 x.st, .int .i64 x.en, .slice OA on oc, .slice CA cn cc] 28) := ⟨_, rfl⟩
  have z1 : (w.alloc (.cells #[.slice A n c, .int .i64 s.key, .int .i64 s.cmp, .int .i64 s.del, .int .i64 s.sort] 24)).heap.size = w.heap.size + 1 := by simp
  have H1 : Bm w w1 A n c s OA on oc CA cn cc x := by
    have g1 := Gb.new (w.alloc (.cells #[.slice A n c, .int .i64 s.key, .int .i64 s.cmp, .int .i64 s.del, .int .i64 s.sort] 24)) x.part x.id x.st x.en OA on oc CA cn cc
    rw [z1] at g1
    rw [hw1]
    exact ⟨(Wd.Bx.new w _ _).alloc _, g1, ((Below.refl _ _).alloc (Nat.le_refl _) _).alloc (by simp) _⟩
  have H1 := Lib.hid H1
  have Hw1 := Lib.hid hw1
  have HS := Lib.hid hS
  have HX := Lib.hid hX
  have Hn := Lib.hid hS.len
  have Hcn := Lib.hid hX.num
  have Hon := Lib.hid hX.offs.len
  have Ca := Lib.hid (awake_any w1)
  clear hw1 z1 hS hX
  go_enter Tryz.func8, Tryz.ntmps8
  go_upto_region 1 with fail
  rw [← Hw1.out]
  go_wp2_with fail
  refine Ca.out.mono ?_
  rintro e w2 ⟨rfl, hB2⟩
  have H2 := Lib.hid (H1.out.below hB2)
  have Cf := Lib.hid (Sx.Few_any A n c s w2 (HS.out.below H2.out.b))
  obtain ⟨v1, hv1⟩ : ∃ v1, v1 = tr (FewS s) := ⟨_, rfl⟩
  rw [← hv1] at Cf
  have Hv1 := Lib.hid hv1
  obtain ⟨c0, c1, c2, c3, c4⟩ := five H2.out.s
  clear hB2 Ca hv1
  go_wp2_with fail
  refine Cf.out.mono ?_
  rintro e w3 ⟨rfl, hB3⟩
  have H3 := Lib.hid (H2.out.below hB3)
  have Cl := Lib.hid (refLight_any OA on oc CA cn cc os x w3 (HX.out.below H3.out.b))
  obtain ⟨v2, hv2⟩ : ∃ v2, v2 = tr (LightG x) := ⟨_, rfl⟩
  rw [← hv2] at Cl
  have Hv2 := Lib.hid hv2
  clear hB3 c0 c1 c2 c3 c4 Cf hv2
  obtain ⟨d0, d1, d2, d3, d4, d5⟩ := Gb.six H3.out.x
  go_wp2_with fail
  refine Cl.out.mono ?_
  rintro e w4 ⟨rfl, hB4⟩
  have H4 := Lib.hid (H3.out.below hB4)
  clear hB4 d0 d1 d2 d3 d4 d5 Cl
  cases v1
  case false =>
    go_wp2_with fail
    go_ret
    exact ⟨rfl, H4.out.b⟩
  cases v2
  case false =>
    go_wp2_with fail
    go_ret
    exact ⟨rfl, H4.out.b⟩
  have hfew := (tr_iff (p := FewS s)).1 Hv1.out.symm
  have hli := (tr_iff (p := LightG x)).1 Hv2.out.symm
  have hn : n ≤ 1000000 := by have := hfew.1; have := Hn.out; omega
  have hcn : cn ≤ 1000000 := by have := hli.2.1; have := Hcn.out; omega
  have hon : on ≤ 200 := by have := hli.1; have := Hon.out; omega
  have Hlt := Lib.hid (lt_light HX.out hli)
  have Cm := Lib.hid (may_any A n c s OA on oc CA cn cc os x w4 (HS.out.below H4.out.b) (HX.out.below H4.out.b) Hlt.out hn hcn (by omega))
  obtain ⟨c0, c1, c2, c3, c4⟩ := five H4.out.s
  obtain ⟨d0, d1, d2, d3, d4, d5⟩ := Gb.six H4.out.x
  clear hfew hli Hv1 Hv2
  by_cases hok : Ok s x
  case neg =>
    have t := Lib.hid (tr_no hok)
    clear hok
    go_wp2_with fail
    refine Cm.out.mono ?_
    rintro e w5 ⟨rfl, hB5⟩
    rw [t.out]
    have H5 := Lib.hid (H4.out.below hB5)
    clear hB5 c0 c1 c2 c3 c4 d0 d1 d2 d3 d4 d5 Cm
    go_wp2_with fail
    go_ret
    exact ⟨rfl, H5.out.b⟩
  have t := Lib.hid (tr_yes hok)
  have Hok := Lib.hid hok
  clear hok
  go_wp2_with fail
  refine Cm.out.mono ?_
  rintro e w5 ⟨rfl, hB5⟩
  rw [t.out]
  have H5 := Lib.hid (H4.out.below hB5)
  have Cr := Lib.hid (rows_any OA on oc CA cn cc os x w5 (HX.out.below H5.out.b) Hlt.out hcn (by omega))
  clear hB5 c0 c1 c2 c3 c4 d0 d1 d2 d3 d4 d5 Cm
  obtain ⟨d0, d1, d2, d3, d4, d5⟩ := Gb.six H5.out.x
  go_wp2_with fail
  refine Cr.out.mono ?_
  rintro e w6 ⟨RA, rn, rc, rfl, hL6, hB6⟩
  have hrn : rn = on := by rw [hL6.len, rows_len]; exact Hon.out.symm
  subst hrn
  have H6 := Lib.hid (H5.out.below hB6)
  have HL6 := Lib.hid hL6
  have hrcap := hL6.cap
  have hrmax := hL6.max
  unfold maxLen at hrmax
  clear hL6 hB6 Cr d0 d1 d2 d3 d4 d5
  have d4 := (Gb.six H6.out.x).2.2.2.2.1
  have q0 : ((rn : Int) != (rn : Int)) = false := by simp
  go_wp2_with fail
  clear d4 q0
  go_loopw [9] (fun i wr => ∃ k : Nat, i = .int .i64 k ∧ k ≤ rn ∧ Hid (Bm w wr A n c s OA rn oc CA cn cc x ∧ Below w6.heap.size w6 wr)) (fun i _ => rn - (intOf i).toNat)
  case atStart => exact ⟨0, rfl, Nat.zero_le _, Lib.hid ⟨H6.out, Below.refl _ _⟩⟩
  case round =>
    obtain ⟨k, rfl, hk, hI⟩ := hrel
    have HI := Lib.hid hI.out
    clear hI
    by_cases hlt : k < rn
    · have hkI : (k : Int) < (rn : Int) := by omega
      have hlen : (rows x).length = rn := by rw [rows_len]; exact Hon.out.symm
      obtain ⟨b, f, A1, n1, c1, hA, _, r0, hV1⟩ := (HL6.out.below HI.out.2).at_ k (by omega)
      subst hA
      have hfit : FitS s ((rows x).getD k []) := Hok.out.fit.2 _ (by
        rw [List.getD_eq_getElem?_getD, List.getElem?_eq_getElem (by omega)]
        exact List.getElem_mem _)
      have hrow := rows_get (x := x) (i := k) (by rw [← Hon.out]; exact hlt)
      obtain ⟨y, hy⟩ : ∃ y, y = (rows x).getD k [] := ⟨_, rfl⟩
      rw [← hy] at hV1 hfit hrow
      have Cf := Lib.hid (fun W (hb : Below wr.heap.size wr W) => Sx.refFits_any A n c s A1 n1 c1 y W (HS.out.below (HI.out.1.b.trans (hb.mono HI.out.1.b.size))) (hV1.below hb) hn)
      rw [tr_yes hfit] at Cf
      have SB := Lib.hid HI.out.1
      have HV1 := Lib.hid hV1
      have Hrow := Lib.hid hrow
      have R0 := Lib.hid r0
      have bk : ∀ {W : World} {a : Addr} {v : Value}, Below wr.heap.size wr W → wr.cell? a = some v → W.cell? a = some v := fun {W a v} hb hc => (hb.cell (World.block_lt_of_cell? wr a hc)).trans hc
      have sb := five HI.out.1.s
      have xb := Gb.six HI.out.1.x
      have ZZ := Lib.hid (fun (W : World) (hb : Below wr.heap.size wr W) => (show W.cell? ⟨w.heap.size, 0, none⟩ = some (.slice A n c) ∧ W.cell? ⟨w.heap.size, 1, none⟩ = some (.int .i64 s.key) ∧ W.cell? ⟨w.heap.size, 2, none⟩ = some (.int .i64 s.cmp) ∧ W.cell? ⟨w.heap.size, 3, none⟩ = some (.int .i64 s.del) ∧ W.cell? ⟨w.heap.size, 4, none⟩ = some (.int .i64 s.sort) ∧ W.cell? ⟨b, f + k, none⟩ = some (.slice A1 n1 c1) from
        ⟨bk hb sb.1, bk hb sb.2.1, bk hb sb.2.2.1, bk hb sb.2.2.2.1, bk hb sb.2.2.2.2, bk hb r0⟩))
      have YY := Lib.hid (fun (W : World) (hb : Below wr.heap.size wr W) => (show W.cell? ⟨w.heap.size + 1, 0, none⟩ = some (.int .i64 x.part) ∧ W.cell? ⟨w.heap.size + 1, 1, none⟩ = some (.int .i64 x.id) ∧ W.cell? ⟨w.heap.size + 1, 2, none⟩ = some (.int .i64 x.st) ∧ W.cell? ⟨w.heap.size + 1, 3, none⟩ = some (.int .i64 x.en) ∧ W.cell? ⟨w.heap.size + 1, 4, none⟩ = some (.slice OA rn oc) ∧ W.cell? ⟨w.heap.size + 1, 5, none⟩ = some (.slice CA cn cc) ∧ W.cell? ⟨b, f + k, none⟩ = some (.slice A1 n1 c1) from
        ⟨bk hb xb.1, bk hb xb.2.1, bk hb xb.2.2.1, bk hb xb.2.2.2.1, bk hb xb.2.2.2.2.1, bk hb xb.2.2.2.2.2, bk hb r0⟩))
      have Cw := Lib.hid (fun W (hb : Below wr.heap.size wr W) => row_any OA rn oc CA cn cc os x (k : Int) W (HX.out.below (HI.out.1.b.trans (hb.mono HI.out.1.b.size))) Hlt.out ⟨by omega, by omega⟩ hcn)
      rw [← hrow] at Cw
      have Cs := Lib.hid (fun (RA : Option Addr) (m d : Nat) W (hb : Below wr.heap.size wr W) (h : Wd.Vs W RA m d y) => Sx.sameV_any RA m d y A1 n1 c1 y W h (hV1.below hb))
      rw [tr_yes (rfl : y = y)] at Cs
      clear hV1 hfit hrow hy r0 bk sb xb hlen
      go_upto_region 12 with fail
      go_cut [10] (fun v wz => v = .bool true ∧ Below wr.heap.size wr wz)
      case first =>
        have hb : Below wr.heap.size wr wr.drew := (Below.refl _ _).drew
        have z10 := ZZ.out wr.drew hb
        go_region_held3 (fun W => W.cell? ⟨w.heap.size, 0, none⟩ = some (.slice A n c) ∧ W.cell? ⟨w.heap.size, 1, none⟩ = some (.int .i64 s.key) ∧ W.cell? ⟨w.heap.size, 2, none⟩ = some (.int .i64 s.cmp) ∧ W.cell? ⟨w.heap.size, 3, none⟩ = some (.int .i64 s.del) ∧ W.cell? ⟨w.heap.size, 4, none⟩ = some (.int .i64 s.sort) ∧ W.cell? ⟨b, f + k, none⟩ = some (.slice A1 n1 c1)) (with_reducible first | exact z10) (first
          | (go_at_call 30; (with_reducible refine (Cf.out _ hb).mono ?_); rintro e w8 ⟨rfl, hB8⟩; have hb := hb.trans (hB8.mono hb.size); have z10 := ZZ.out _ hb))
        all_goals (
          go_wp2_with fail
          go_meet
          exact ⟨rfl, hb⟩)
      case rest =>
      obtain ⟨rfl, hbc⟩ := hcut
      go_upto_region 13 with fail
      have Hbc := Lib.hid hbc
      clear hbc
      go_cut [11] (fun v wz => v = .bool true ∧ Below wr.heap.size wr wz)
      case first =>
        have hb : Below wr.heap.size wr wc.drew := Hbc.out.drew
        have z10 := YY.out wc.drew hb
        go_region_held3 (fun W => W.cell? ⟨w.heap.size + 1, 0, none⟩ = some (.int .i64 x.part) ∧ W.cell? ⟨w.heap.size + 1, 1, none⟩ = some (.int .i64 x.id) ∧ W.cell? ⟨w.heap.size + 1, 2, none⟩ = some (.int .i64 x.st) ∧ W.cell? ⟨w.heap.size + 1, 3, none⟩ = some (.int .i64 x.en) ∧ W.cell? ⟨w.heap.size + 1, 4, none⟩ = some (.slice OA rn oc) ∧ W.cell? ⟨w.heap.size + 1, 5, none⟩ = some (.slice CA cn cc) ∧ W.cell? ⟨b, f + k, none⟩ = some (.slice A1 n1 c1)) (with_reducible first | exact z10) (first
          | (go_at_call 21; (with_reducible refine (Cw.out _ hb).mono ?_); rintro e w8 ⟨A8, n8, c8, rfl, hV8, hB8⟩; have hb := hb.trans (hB8.mono hb.size); have z10 := YY.out _ hb)
          | (go_at_call 20; (with_reducible refine (Cs.out A8 n8 c8 _ hb hV8).mono ?_); rintro e w9 ⟨rfl, hB9⟩; have hb := hb.trans (hB9.mono hb.size); have z10 := YY.out _ hb))
        all_goals (
          go_wp2_with fail
          go_meet
          exact ⟨rfl, hb⟩)
      case rest =>
      obtain ⟨rfl, hbc⟩ := hcut
      have I9 := Lib.hid (show Bm w wc A n c s OA rn oc CA cn cc x ∧ Below w6.heap.size w6 wc from ⟨SB.out.below hbc, HI.out.2.trans (hbc.mono HI.out.2.size)⟩)
      clear hbc ZZ YY Cf Cw Cs
      go_wp2_with fail
      go_roundw
      case rel => exact ⟨k + 1, by go_num, by omega, I9⟩
      case measure => simp [intOf]; omega
    · have hkI : ¬ (k : Int) < (rn : Int) := by omega
      have B7 := HI.out.1.b
      obtain ⟨d0, d1, d2, d3, d4, d5⟩ := Gb.six HI.out.1.x
      have C1 := row_any OA rn oc CA cn cc os x (-1) wr (HX.out.below B7) Hlt.out ⟨by decide, by decide⟩ hcn
      rw [has_neg (.inl (by decide))] at C1
      have C1 := Lib.hid C1
      clear B7
      go_wp2_with fail
      refine C1.out.mono ?_
      rintro e w8 ⟨A8, n8, c8, rfl, hV8, hB8⟩
      obtain rfl : n8 = 0 := hV8.len
      have H8 := Lib.hid (HI.out.1.below hB8)
      clear hV8 hB8 d0 d1 d2 d3 d4 d5 C1
      obtain ⟨d0, d1, d2, d3, d4, d5⟩ := Gb.six H8.out.x
      have C2 := row_any OA rn oc CA cn cc os x (rn : Int) w8 (HX.out.below H8.out.b) Hlt.out ⟨by omega, by omega⟩ hcn
      rw [has_neg (.inr (by rw [← Hon.out]; exact Int.le_refl _))] at C2
      have C2 := Lib.hid C2
      go_wp2_with fail
      refine C2.out.mono ?_
      rintro e w9 ⟨A9, n9, c9, rfl, hV9, hB9⟩
      obtain rfl : n9 = 0 := hV9.len
      have H9 := Lib.hid (H8.out.below hB9)
      clear hV9 hB9 d0 d1 d2 d3 d4 d5 C2
      go_wp2_with fail
      go_ret
      exact ⟨rfl, H9.out.b⟩
end Lw
end Go.Proofs.YtoibpbnebcoafaaGreat
