/- The walk of the statement SealTells of layer 12. -/
import Derived.Test.YtoibpbnebcoafaaGreatZSeLawA
import Derived.Test.YtoibpbnebcoafaaGreatPk48
import Derived.Test.YtoibpbnebcoafaaGreatPk49
namespace Go.Proofs.YtoibpbnebcoafaaGreat
set_option maxRecDepth 20000
open Go.RowKit
namespace Se
open Wd (Cr)
theorem refRow_vs (OA : Option Addr) (on oc : Nat) (CA : Option Addr) (cn cc : Nat) (os : List Cr) (x : Seg) (i : Int) (w : World) (hX : Sg w OA on oc CA cn cc os x) (hlt : Lt os) (hcn : cn ≤ 1000000) :
    Calls Tryz.prog 22 #[.agg #[.int .i64 x.part, .int .i64 x.id, .int .i64 x.st, .int .i64 x.en, .slice OA on oc, .slice CA cn cc], .int .i64 i] w (Cx.OutV w (row x i)) :=
  (refRow_any OA on oc CA cn cc os x i w hX hlt hcn).mono fun e w' h => by
    obtain ⟨v, rfl, h1, h2, h3⟩ := h
    obtain ⟨A, n, c, rfl, hV⟩ := Wd.Vs.of_own h1 h2
    exact ⟨A, n, c, rfl, hV, h3⟩
end Se
namespace Lw
open Se
open Va (Vl)
open Sc (Sch MayS FitS tr tr_yes tr_no tr_iff tr_congr)
open Sx (Sb five FewS)
open Wd (Cr)
set_option maxHeartbeats 8000000 in
theorem sealTells_walk (A : Option Addr) (n c : Nat) (s : Sch) (OA : Option Addr) (on oc : Nat) (CA : Option Addr) (cn cc : Nat) (os : List Cr) (x : Seg) (i : Int) (w : World) (hS : Wd.Cs w A n c s.cols) (_u : Wd.Sch1 s) (hX : Sg w OA on oc CA cn cc os x) (hi0 : -9223372036854775808 ≤ i) (hi1 : i ≤ 9223372036854775807) :
    Calls Tryz.prog 4 #[.agg #[.slice A n c, .int .i64 s.key, .int .i64 s.cmp, .int .i64 s.del, .int .i64 s.sort], .agg #[.int .i64 x.part, .int .i64 x.id, .int .i64 x.st, .int .i64 x.en, .slice OA on oc, .slice CA cn cc], .int .i64 i] w fun e w' => e = .returned (.bool true) ∧ Below w.heap.size w w' := by
  obtain ⟨w1, hw1⟩ : ∃ w1, w1 = (w.alloc (.cells #[.slice A n c, .int .i64 s.key, .int .i64 s.cmp, .int .i64 s.del, .int .i64 s.sort] 24)).alloc (.cells #[.int .i64 x.part, .int .i64 x.id, .int .i64 x.st, .int .i64 x.en, .slice OA on oc, .slice CA cn cc] 28) := ⟨_, rfl⟩
  have z1 : (w.alloc (.cells #[.slice A n c, .int .i64 s.key, .int .i64 s.cmp, .int .i64 s.del, .int .i64 s.sort] 24)).heap.size = w.heap.size + 1 := by simp
  have H1 : Bm w w1 A n c s OA on oc CA cn cc x := by
    have g1 := Gb.new (w.alloc (.cells #[.slice A n c, .int .i64 s.key, .int .i64 s.cmp, .int .i64 s.del, .int .i64 s.sort] 24)) x.part x.id x.st x.en OA on oc CA cn cc
    rw [z1] at g1
    rw [hw1]
    exact ⟨(Wd.Bx.new w _ _).alloc _, g1, ((Below.refl _ _).alloc (Nat.le_refl _) _).alloc (by simp) _⟩
  have H1 := Lib.hid H1
  have Hw1 := Lib.hid hw1
  have HS := Lib.hid hS
  have HX := Lib.hid hX
  have Hn := Lib.hid hS.len
  have Hcn := Lib.hid hX.num
  have Hon := Lib.hid hX.offs.len
  have Ca := Lib.hid (awake_any w1)
  clear hw1 z1 hS hX
  go_enter Tryz.func4, Tryz.ntmps4
  go_upto_region 1 with fail
  rw [← Hw1.out]
  go_wp2_with fail
  refine Ca.out.mono ?_
  rintro e w2 ⟨rfl, hB2⟩
  have H2 := Lib.hid (H1.out.below hB2)
  have Cf := Lib.hid (Sx.Few_any A n c s w2 (HS.out.below H2.out.b))
  obtain ⟨v1, hv1⟩ : ∃ v1, v1 = tr (FewS s) := ⟨_, rfl⟩
  rw [← hv1] at Cf
  have Hv1 := Lib.hid hv1
  obtain ⟨c0, c1, c2, c3, c4⟩ := five H2.out.s
  clear hB2 Ca hv1
  go_wp2_with fail
  refine Cf.out.mono ?_
  rintro e w3 ⟨rfl, hB3⟩
  have H3 := Lib.hid (H2.out.below hB3)
  have Cl := Lib.hid (refLight_any OA on oc CA cn cc os x w3 (HX.out.below H3.out.b))
  obtain ⟨v2, hv2⟩ : ∃ v2, v2 = tr (LightG x) := ⟨_, rfl⟩
  rw [← hv2] at Cl
  have Hv2 := Lib.hid hv2
  clear hB3 c0 c1 c2 c3 c4 Cf hv2
  obtain ⟨d0, d1, d2, d3, d4, d5⟩ := Gb.six H3.out.x
  go_wp2_with fail
  refine Cl.out.mono ?_
  rintro e w4 ⟨rfl, hB4⟩
  have H4 := Lib.hid (H3.out.below hB4)
  clear hB4 d0 d1 d2 d3 d4 d5 Cl
  cases v1
  case false =>
    go_wp2_with fail
    go_ret
    exact ⟨rfl, H4.out.b⟩
  cases v2
  case false =>
    go_wp2_with fail
    go_ret
    exact ⟨rfl, H4.out.b⟩
  have hfew := (tr_iff (p := FewS s)).1 Hv1.out.symm
  have hli := (tr_iff (p := LightG x)).1 Hv2.out.symm
  have hn : n ≤ 1000000 := by have := hfew.1; have := Hn.out; omega
  have hcn : cn ≤ 1000000 := by have := hli.2.1; have := Hcn.out; omega
  have hon : on ≤ 200 := by have := hli.1; have := Hon.out; omega
  have Hlt := Lib.hid (lt_light HX.out hli)
  clear hfew hli Hv1 Hv2
  obtain ⟨wv, hwv⟩ : ∃ wv, wv = w4 := ⟨_, rfl⟩
  subst hwv
  have HI := H4
  have BX := Lib.hid (fun W (hb : Below wv.heap.size wv W) => HX.out.below (HI.out.b.trans (hb.mono HI.out.b.size)))
  have BS := Lib.hid (fun W (hb : Below wv.heap.size wv W) => HS.out.below (HI.out.b.trans (hb.mono HI.out.b.size)))
  have bk : ∀ {W : World} {a : Addr} {v : Value}, Below wv.heap.size wv W → wv.cell? a = some v → W.cell? a = some v := fun {W a v} hb hc => (hb.cell (World.block_lt_of_cell? wv a hc)).trans hc
  have sb := five HI.out.s
  have xb := Gb.six HI.out.x
  have YY := Lib.hid (fun (W : World) (hb : Below wv.heap.size wv W) => (show W.cell? ⟨w.heap.size + 1, 0, none⟩ = some (.int .i64 x.part) ∧ W.cell? ⟨w.heap.size + 1, 1, none⟩ = some (.int .i64 x.id) ∧ W.cell? ⟨w.heap.size + 1, 2, none⟩ = some (.int .i64 x.st) ∧ W.cell? ⟨w.heap.size + 1, 3, none⟩ = some (.int .i64 x.en) ∧ W.cell? ⟨w.heap.size + 1, 4, none⟩ = some (.slice OA on oc) ∧ W.cell? ⟨w.heap.size + 1, 5, none⟩ = some (.slice CA cn cc) from
    ⟨bk hb xb.1, bk hb xb.2.1, bk hb xb.2.2.1, bk hb xb.2.2.2.1, bk hb xb.2.2.2.2.1, bk hb xb.2.2.2.2.2⟩))
  have ZZ := Lib.hid (fun (W : World) (hb : Below wv.heap.size wv W) => (show W.cell? ⟨w.heap.size, 0, none⟩ = some (.slice A n c) ∧ W.cell? ⟨w.heap.size, 1, none⟩ = some (.int .i64 s.key) ∧ W.cell? ⟨w.heap.size, 2, none⟩ = some (.int .i64 s.cmp) ∧ W.cell? ⟨w.heap.size, 3, none⟩ = some (.int .i64 s.del) ∧ W.cell? ⟨w.heap.size, 4, none⟩ = some (.int .i64 s.sort) ∧ W.cell? ⟨w.heap.size + 1, 0, none⟩ = some (.int .i64 x.part) ∧ W.cell? ⟨w.heap.size + 1, 1, none⟩ = some (.int .i64 x.id) ∧ W.cell? ⟨w.heap.size + 1, 2, none⟩ = some (.int .i64 x.st) ∧ W.cell? ⟨w.heap.size + 1, 3, none⟩ = some (.int .i64 x.en) ∧ W.cell? ⟨w.heap.size + 1, 4, none⟩ = some (.slice OA on oc) ∧ W.cell? ⟨w.heap.size + 1, 5, none⟩ = some (.slice CA cn cc) from
    ⟨bk hb sb.1, bk hb sb.2.1, bk hb sb.2.2.1, bk hb sb.2.2.2.1, bk hb sb.2.2.2.2, bk hb xb.1, bk hb xb.2.1, bk hb xb.2.2.1, bk hb xb.2.2.2.1, bk hb xb.2.2.2.2.1, bk hb xb.2.2.2.2.2⟩))
  obtain ⟨y, hy⟩ : ∃ y, y = row x i := ⟨_, rfl⟩
  obtain ⟨L, hL⟩ : ∃ L, L = rows x := ⟨_, rfl⟩
  have C1 := Lib.hid (fun W (hb : Below wv.heap.size wv W) => row_any OA on oc CA cn cc os x i W (BX.out W hb) Hlt.out ⟨hi0, hi1⟩ hcn)
  have C2 := Lib.hid (fun W (hb : Below wv.heap.size wv W) => refRow_vs OA on oc CA cn cc os x i W (BX.out W hb) Hlt.out hcn)
  have C3 := Lib.hid (fun (B1 : Option Addr) (m1 e1 : Nat) (B2 : Option Addr) (m2 e2 : Nat) W (h1 : Wd.Vs W B1 m1 e1 y) (h2 : Wd.Vs W B2 m2 e2 y) => Sx.sameV_any B1 m1 e1 y B2 m2 e2 y W h1 h2)
  have D1 := Lib.hid (fun W (hb : Below wv.heap.size wv W) => rows_any OA on oc CA cn cc os x W (BX.out W hb) Hlt.out hcn (by omega))
  have D2 := Lib.hid (fun W (hb : Below wv.heap.size wv W) => refRows_any OA on oc CA cn cc os x W (BX.out W hb) Hlt.out hcn (by omega))
  have D3 := Lib.hid (fun (B1 : Option Addr) (m1 e1 : Nat) (B2 : Option Addr) (m2 e2 : Nat) W (h1 : Wd.Ls W B1 m1 e1 L) (h2 : Wd.Ls W B2 m2 e2 L) => sameL_any B1 m1 e1 L B2 m2 e2 L W h1 h2)
  have E1 := Lib.hid (fun W (hb : Below wv.heap.size wv W) => may_any A n c s OA on oc CA cn cc os x W (BS.out W hb) (BX.out W hb) Hlt.out hn hcn (by omega))
  have E2 := Lib.hid (fun W (hb : Below wv.heap.size wv W) => refMay_any A n c s OA on oc CA cn cc os x W (BS.out W hb) (BX.out W hb) Hlt.out hn hcn (by omega))
  rw [← hy] at C1 C2
  rw [← hL] at D1 D2
  rw [tr_yes (rfl : y = y)] at C3
  rw [tr_yes (rfl : L = L)] at D3
  obtain ⟨rv, hrv⟩ : ∃ rv, rv = tr (Ok s x) := ⟨_, rfl⟩
  rw [← hrv] at E1 E2
  clear hy hL hrv bk sb xb
  go_upto_region 6 with fail
  go_cut [10] (fun v wz => v = .bool true ∧ Below wv.heap.size wv wz)
  case first =>
    have hb : Below wv.heap.size wv wv.drew := (Below.refl _ _).drew
    have z10 := YY.out wv.drew hb
    go_region_held3 (fun W => W.cell? ⟨w.heap.size + 1, 0, none⟩ = some (.int .i64 x.part) ∧ W.cell? ⟨w.heap.size + 1, 1, none⟩ = some (.int .i64 x.id) ∧ W.cell? ⟨w.heap.size + 1, 2, none⟩ = some (.int .i64 x.st) ∧ W.cell? ⟨w.heap.size + 1, 3, none⟩ = some (.int .i64 x.en) ∧ W.cell? ⟨w.heap.size + 1, 4, none⟩ = some (.slice OA on oc) ∧ W.cell? ⟨w.heap.size + 1, 5, none⟩ = some (.slice CA cn cc)) (with_reducible first | exact z10) (first
      | (go_at_call 21; (with_reducible refine (C1.out _ hb).mono ?_); rintro e w8 ⟨B1, m1, e1, rfl, hV1, hB⟩; have hb := hb.trans (hB.mono hb.size); have z10 := YY.out _ hb; (try have hV2 := hV2.below hB))
      | (go_at_call 22; (with_reducible refine (C2.out _ hb).mono ?_); rintro e w8 ⟨B2, m2, e2, rfl, hV2, hB⟩; have hb := hb.trans (hB.mono hb.size); have z10 := YY.out _ hb; (try have hV1 := hV1.below hB))
      | (go_at_call 20; (with_reducible refine (C3.out B1 m1 e1 B2 m2 e2 _ hV1 hV2).mono ?_); rintro e w9 ⟨rfl, hB9⟩; have hb := hb.trans (hB9.mono hb.size); have z10 := YY.out _ hb))
    all_goals (
      go_wp2_with fail
      go_meet
      exact ⟨rfl, hb⟩)
  case rest =>
  obtain ⟨rfl, hbc⟩ := hcut
  obtain ⟨w5, hw5⟩ : ∃ w5, w5 = wc := ⟨_, rfl⟩
  subst hw5
  have Hbc := Lib.hid hbc
  clear hbc C1 C2 C3
  go_upto_region 7 with fail
  go_cut [11] (fun v wz => v = .bool true ∧ Below wv.heap.size wv wz)
  case first =>
    have hb : Below wv.heap.size wv w5.drew := Hbc.out.drew
    have z10 := YY.out w5.drew hb
    go_region_held3 (fun W => W.cell? ⟨w.heap.size + 1, 0, none⟩ = some (.int .i64 x.part) ∧ W.cell? ⟨w.heap.size + 1, 1, none⟩ = some (.int .i64 x.id) ∧ W.cell? ⟨w.heap.size + 1, 2, none⟩ = some (.int .i64 x.st) ∧ W.cell? ⟨w.heap.size + 1, 3, none⟩ = some (.int .i64 x.en) ∧ W.cell? ⟨w.heap.size + 1, 4, none⟩ = some (.slice OA on oc) ∧ W.cell? ⟨w.heap.size + 1, 5, none⟩ = some (.slice CA cn cc)) (with_reducible first | exact z10) (first
      | (go_at_call 24; (with_reducible refine (D1.out _ hb).mono ?_); rintro e w8 ⟨B1, m1, e1, rfl, hV1, hB⟩; have hb := hb.trans (hB.mono hb.size); have z10 := YY.out _ hb; (try have hV2 := hV2.below hB))
      | (go_at_call 25; (with_reducible refine (D2.out _ hb).mono ?_); rintro e w8 ⟨B2, m2, e2, rfl, hV2, hB⟩; have hb := hb.trans (hB.mono hb.size); have z10 := YY.out _ hb; (try have hV1 := hV1.below hB))
      | (go_at_call 23; (with_reducible refine (D3.out B1 m1 e1 B2 m2 e2 _ hV1 hV2).mono ?_); rintro e w9 ⟨rfl, hB9⟩; have hb := hb.trans (hB9.mono hb.size); have z10 := YY.out _ hb))
    all_goals (
      go_wp2_with fail
      go_meet
      exact ⟨rfl, hb⟩)
  case rest =>
  obtain ⟨rfl, hbc⟩ := hcut
  have Hbd := Lib.hid hbc
  clear hbc D1 D2 D3 Hbc
  go_upto_region 8 with fail
  have hb : Below wv.heap.size wv wc.drew := Hbd.out.drew
  have z10 := ZZ.out wc.drew hb
  go_region_held3 (fun W => W.cell? ⟨w.heap.size, 0, none⟩ = some (.slice A n c) ∧ W.cell? ⟨w.heap.size, 1, none⟩ = some (.int .i64 s.key) ∧ W.cell? ⟨w.heap.size, 2, none⟩ = some (.int .i64 s.cmp) ∧ W.cell? ⟨w.heap.size, 3, none⟩ = some (.int .i64 s.del) ∧ W.cell? ⟨w.heap.size, 4, none⟩ = some (.int .i64 s.sort) ∧ W.cell? ⟨w.heap.size + 1, 0, none⟩ = some (.int .i64 x.part) ∧ W.cell? ⟨w.heap.size + 1, 1, none⟩ = some (.int .i64 x.id) ∧ W.cell? ⟨w.heap.size + 1, 2, none⟩ = some (.int .i64 x.st) ∧ W.cell? ⟨w.heap.size + 1, 3, none⟩ = some (.int .i64 x.en) ∧ W.cell? ⟨w.heap.size + 1, 4, none⟩ = some (.slice OA on oc) ∧ W.cell? ⟨w.heap.size + 1, 5, none⟩ = some (.slice CA cn cc)) (with_reducible first | exact z10) (first
    | (go_at_call 26; (with_reducible refine (E1.out _ hb).mono ?_); rintro e w8 ⟨rfl, hB⟩; have hb := hb.trans (hB.mono hb.size); have z10 := ZZ.out _ hb)
    | (go_at_call 27; (with_reducible refine (E2.out _ hb).mono ?_); rintro e w8 ⟨rfl, hB⟩; have hb := hb.trans (hB.mono hb.size); have z10 := ZZ.out _ hb))
  all_goals (
    go_wp2_with fail
    go_ret
    exact ⟨by cases rv <;> rfl, HI.out.b.trans (hb.mono HI.out.b.size)⟩)
end Lw
end Go.Proofs.YtoibpbnebcoafaaGreat
