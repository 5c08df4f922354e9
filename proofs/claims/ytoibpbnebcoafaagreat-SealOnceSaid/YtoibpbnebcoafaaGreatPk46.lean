/- The reference of layer 12: Same. What the reference of layer 10 does: Ids. -/
import Derived.StillTailTactics
import Derived.BigQuiet
import Derived.Deep.QuietTactic
import Derived.Deep.RegionHeld3
import Derived.Test.YtoibpbnebcoafaaGreatPk44
import Derived.Test.YtoibpbnebcoafaaGreatPk08
import Derived.Test.YtoibpbnebcoafaaGreatPk29
import Derived.Test.YtoibpbnebcoafaaGreatPk22
namespace Go.Proofs.YtoibpbnebcoafaaGreat
set_option maxRecDepth 20000
open Go.RowKit
namespace Se
open Va (Vl)
open Sc (Sch MayS FitS tr tr_yes tr_no tr_iff tr_congr)
open Sx (Sb five)
open Wd (Cr)
theorem cols_get {os : List Cr} {k : Nat} (h : k < os.length) : (Wd.cols os).getD k Co.none_ = (os.getD k default).C := by
  unfold Wd.cols
  rw [List.getD_eq_getElem?_getD, List.getElem?_map, List.getElem?_eq_getElem h, List.getD_eq_getElem?_getD, List.getElem?_eq_getElem h]
  rfl
theorem cols_ext {os ps : List Cr} (hl : os.length = ps.length) (h : ∀ j, j < os.length → (os.getD j default).C = (ps.getD j default).C) : Wd.cols os = Wd.cols ps := by
  apply List.ext_getElem
  · rw [Wd.cols_len, Wd.cols_len, hl]
  · intro i h1 h2
    rw [Wd.cols_len] at h1 h2
    have a := cols_get h1
    have b := cols_get h2
    rw [List.getD_eq_getElem?_getD, List.getElem?_eq_getElem (by rw [Wd.cols_len]; exact h1)] at a
    rw [List.getD_eq_getElem?_getD, List.getElem?_eq_getElem (by rw [Wd.cols_len]; exact h2)] at b
    exact a.trans ((h i h1).trans b.symm)
set_option maxHeartbeats 8000000 in
theorem refSame_any (OA : Option Addr) (on oc : Nat) (CA : Option Addr) (cn cc : Nat) (os : List Cr) (x : Seg) (PA : Option Addr) (pn pc : Nat) (DA : Option Addr) (dn dc : Nat) (ps : List Cr) (y : Seg) (w : World) (hX : Sg w OA on oc CA cn cc os x) (hY : Sg w PA pn pc DA dn dc ps y) :
    Calls Tryz.prog 15 #[.agg #[.int .i64 x.part, .int .i64 x.id, .int .i64 x.st, .int .i64 x.en, .slice OA on oc, .slice CA cn cc], .agg #[.int .i64 y.part, .int .i64 y.id, .int .i64 y.st, .int .i64 y.en, .slice PA pn pc, .slice DA dn dc]] w fun e w' => e = .returned (.bool (tr (x = y))) ∧ Below w.heap.size w w' := by
  obtain ⟨w1, hw1⟩ : ∃ w1, w1 = (w.alloc (.cells #[.int .i64 x.part, .int .i64 x.id, .int .i64 x.st, .int .i64 x.en, .slice OA on oc, .slice CA cn cc] 28)).alloc (.cells #[.int .i64 y.part, .int .i64 y.id, .int .i64 y.st, .int .i64 y.en, .slice PA pn pc, .slice DA dn dc] 28) := ⟨_, rfl⟩
  have z1 : (w.alloc (.cells #[.int .i64 x.part, .int .i64 x.id, .int .i64 x.st, .int .i64 x.en, .slice OA on oc, .slice CA cn cc] 28)).heap.size = w.heap.size + 1 := by simp
  have x1 : Gb w1 w.heap.size x.part x.id x.st x.en OA on oc CA cn cc := by rw [hw1]; exact (Gb.new w x.part x.id x.st x.en OA on oc CA cn cc).alloc _
  have y1 : Gb w1 (w.heap.size + 1) y.part y.id y.st y.en PA pn pc DA dn dc := by
    have := Gb.new (w.alloc (.cells #[.int .i64 x.part, .int .i64 x.id, .int .i64 x.st, .int .i64 x.en, .slice OA on oc, .slice CA cn cc] 28)) y.part y.id y.st y.en PA pn pc DA dn dc
    rw [z1] at this
    rw [hw1]
    exact this
  have hb1 : Below w.heap.size w w1 := by rw [hw1]; exact ((Below.refl _ _).alloc (Nat.le_refl _) _).alloc (by simp) _
  obtain ⟨d0, d1, d2, d3, d4, d5⟩ := Gb.six x1
  obtain ⟨e0, e1, e2, e3, e4, e5⟩ := Gb.six y1
  have HX := Lib.hid hX
  have HY := Lib.hid hY
  have X1 := Lib.hid x1
  have Y1 := Lib.hid y1
  have Hb1 := Lib.hid hb1
  have Hw1 := Lib.hid hw1
  have Hcn := Lib.hid hX.cols.len
  have Hdn := Lib.hid hY.cols.len
  have Ci := Lib.hid ((Nc.ints_any OA PA on pn oc pc x.offs y.offs w1 (hX.below hb1).offs (hY.below hb1).offs).mono (R' := fun e w' => e = .returned (.bool (decide (x.offs = y.offs))) ∧ Below w1.heap.size w1 w') fun e w' h => ⟨h.1, by obtain ⟨q, rfl⟩ := h.2; exact Wd.below_drewN (Below.refl _ _) q⟩)
  obtain ⟨r, hr⟩ : ∃ r, r = tr (x = y) := ⟨_, rfl⟩
  rw [← hr]
  have Hno := Lib.hid (fun (h : ¬ x = y) => (by rw [hr]; exact tr_no h : r = false))
  have Hyes := Lib.hid (fun (h : x = y) => (by rw [hr]; exact tr_yes h : r = true))
  clear hr hX hY x1 y1 hb1 hw1 z1
  go_enter Tryz.func15, Tryz.ntmps15
  go_upto_region 1 with fail
  rw [← Hw1.out]
  by_cases h0 : x.offs = y.offs
  case neg =>
    have t1 := Lib.hid (decide_eq_false h0)
    have q := Lib.hid (Hno.out fun z => h0 (by rw [z]))
    clear h0
    go_wp2_with fail
    refine Ci.out.mono ?_
    rintro e w2 ⟨rfl, hB2⟩
    rw [t1.out]
    have H2 := Lib.hid (Hb1.out.trans (hB2.mono Hb1.out.size))
    clear hB2 Ci d0 d1 d2 d3 d4 d5 e0 e1 e2 e3 e4 e5
    go_wp2_with fail
    go_ret
    exact ⟨by rw [q.out]; rfl, H2.out⟩
  have t1 := Lib.hid (decide_eq_true h0)
  have P0 := Lib.hid h0
  clear h0
  go_wp2_with fail
  refine Ci.out.mono ?_
  rintro e w2 ⟨rfl, hB2⟩
  rw [t1.out]
  have H2 := Lib.hid (Hb1.out.trans (hB2.mono Hb1.out.size))
  have X2 := Lib.hid (X1.out.below X1.out.lt hB2)
  have Y2 := Lib.hid (Y1.out.below Y1.out.lt hB2)
  clear hB2 Ci d0 d1 d2 d3 d4 d5 e0 e1 e2 e3 e4 e5
  obtain ⟨d0, d1, d2, d3, d4, d5⟩ := Gb.six X2.out
  obtain ⟨e0, e1, e2, e3, e4, e5⟩ := Gb.six Y2.out
  by_cases h1 : x.part = y.part
  case neg =>
    have q1 : (x.part != y.part) = true := by simpa using h1
    have q := Lib.hid (Hno.out fun z => h1 (by rw [z]))
    go_wp2_with fail
    go_ret
    exact ⟨by rw [q.out]; rfl, H2.out⟩
  have q1 : (x.part != y.part) = false := by simpa using h1
  have P1 := Lib.hid h1
  clear h1
  by_cases h2 : x.id = y.id
  case neg =>
    have q2 : (x.id != y.id) = true := by simpa using h2
    have q := Lib.hid (Hno.out fun z => h2 (by rw [z]))
    go_wp2_with fail
    go_ret
    exact ⟨by rw [q.out]; rfl, H2.out⟩
  have q2 : (x.id != y.id) = false := by simpa using h2
  have P2 := Lib.hid h2
  clear h2
  by_cases h3 : x.st = y.st
  case neg =>
    have q3 : (x.st != y.st) = true := by simpa using h3
    have q := Lib.hid (Hno.out fun z => h3 (by rw [z]))
    go_wp2_with fail
    go_ret
    exact ⟨by rw [q.out]; rfl, H2.out⟩
  have q3 : (x.st != y.st) = false := by simpa using h3
  have P3 := Lib.hid h3
  clear h3
  by_cases h4 : x.en = y.en
  case neg =>
    have q4 : (x.en != y.en) = true := by simpa using h4
    have q := Lib.hid (Hno.out fun z => h4 (by rw [z]))
    go_wp2_with fail
    go_ret
    exact ⟨by rw [q.out]; rfl, H2.out⟩
  have q4 : (x.en != y.en) = false := by simpa using h4
  have P4 := Lib.hid h4
  clear h4
  by_cases h5 : cn = dn
  case neg =>
    have q5 : ((cn : Int) != (dn : Int)) = true := by simp; omega
    have q := Lib.hid (Hno.out fun z => h5 (by
      have := congrArg (fun g => g.cols.length) z
      simp only [HX.out.eq, HY.out.eq, Wd.cols_len] at this
      rw [Hcn.out, Hdn.out, this]))
    clear h5
    go_wp2_with fail
    go_ret
    exact ⟨by rw [q.out]; rfl, H2.out⟩
  subst h5
  have q5 : ((cn : Int) != (cn : Int)) = false := by simp
  go_wp2_with fail
  clear q1 q2 q3 q4 q5 d0 d1 d2 d3 d4 d5 e0 e1 e2 e3 e4 e5
  go_loopw [6] (fun i wr => ∃ k : Nat, i = .int .i64 k ∧ k ≤ cn ∧ Hid ((∀ j, j < k → (os.getD j default).C = (ps.getD j default).C) ∧ Below w2.heap.size w2 wr)) (fun i _ => cn - (intOf i).toNat)
  case atStart => exact ⟨0, rfl, Nat.zero_le _, Lib.hid ⟨fun j hj => by omega, Below.refl _ _⟩⟩
  case round =>
    obtain ⟨k, rfl, hk, hI⟩ := hrel
    have d5 := (Gb.six (X2.out.below X2.out.lt hI.out.2)).2.2.2.2.2
    have e5 := (Gb.six (Y2.out.below Y2.out.lt hI.out.2)).2.2.2.2.2
    by_cases hltk : k < cn
    · have hkI : (k : Int) < (cn : Int) := by omega
      have hbw : Below w.heap.size w wr := H2.out.trans (hI.out.2.mono H2.out.size)
      have hko : k < os.length := by rw [← Hcn.out]; exact hltk
      have hkp : k < ps.length := by rw [← Hdn.out]; exact hltk
      obtain ⟨b, f, hA, _, c0, c1, c2, hC⟩ := (HX.out.cols.below hbw).cells hko rfl
      obtain ⟨b', f', hA', _, u0, u1, u2, hD⟩ := (HY.out.cols.below hbw).cells hkp rfl
      have hcap := HX.out.cols.cap
      have hmax := HX.out.cols.max
      have hcap' := HY.out.cols.cap
      have hmax' := HY.out.cols.max
      unfold maxLen at hmax hmax'
      subst hA
      subst hA'
      have hbad := fun (h : ¬ (os.getD k default).C = (ps.getD k default).C) => Hno.out fun z => h (by
          rw [← cols_get hko, ← cols_get hkp, ← HX.out.eq, ← HY.out.eq, z])
      obtain ⟨o, ho⟩ : ∃ o, o = os.getD k default := ⟨_, rfl⟩
      obtain ⟨p, hp⟩ : ∃ p, p = ps.getD k default := ⟨_, rfl⟩
      rw [← ho] at c0 c1 c2 hC hbad
      rw [← hp] at u0 u1 u2 hD hbad
      have Cs := Lib.hid (fun W (hb : Below wr.heap.size wr W) => Cx.sameC_any o.A o.n o.c o.B o.m o.d o.C p.A p.n p.c p.B p.m p.d p.C W (hC.below hb) (hD.below hb))
      have Ho := Lib.hid ho
      have Hp := Lib.hid hp
      have Hbad := Lib.hid hbad
      have bk : ∀ {W : World} {a : Addr} {v : Value}, Below wr.heap.size wr W → wr.cell? a = some v → W.cell? a = some v := fun {W a v} hb hc => (hb.cell (World.block_lt_of_cell? wr a hc)).trans hc
      have ZZ := Lib.hid (fun (W : World) (hb : Below wr.heap.size wr W) => (show W.cell? ⟨w.heap.size, 5, none⟩ = some (.slice (some ⟨b, f, none⟩) cn cc) ∧ W.cell? ⟨w.heap.size + 1, 5, none⟩ = some (.slice (some ⟨b', f', none⟩) cn dc) ∧ W.cell? ⟨b, f + k * 3, none⟩ = some (.int .i64 o.C.n) ∧ W.cell? ⟨b, f + k * 3 + 1, none⟩ = some (.slice o.A o.n o.c) ∧ W.cell? ⟨b, f + k * 3 + 2, none⟩ = some (.slice o.B o.m o.d) ∧ W.cell? ⟨b', f' + k * 3, none⟩ = some (.int .i64 p.C.n) ∧ W.cell? ⟨b', f' + k * 3 + 1, none⟩ = some (.slice p.A p.n p.c) ∧ W.cell? ⟨b', f' + k * 3 + 2, none⟩ = some (.slice p.B p.m p.d) from
        ⟨bk hb d5, bk hb e5, bk hb c0, bk hb c1, bk hb c2, bk hb u0, bk hb u1, bk hb u2⟩))
      obtain ⟨fv, hfv⟩ : ∃ fv, fv = tr (o.C = p.C) := ⟨_, rfl⟩
      rw [← hfv] at Cs
      have Hfv := Lib.hid hfv
      have HI := Lib.hid hI.out
      clear hbad ho hp hko hkp hC hD hbw bk hfv hI e5 c0 c1 c2 u0 u1 u2
      go_upto_region 7 with fail
      go_cut [7] (fun v wz => v = .bool fv ∧ Below wr.heap.size wr wz)
      case first =>
        have hb : Below wr.heap.size wr wr.drew := (Below.refl _ _).drew
        have z10 := ZZ.out wr.drew hb
        go_region_held3 (fun W => W.cell? ⟨w.heap.size, 5, none⟩ = some (.slice (some ⟨b, f, none⟩) cn cc) ∧ W.cell? ⟨w.heap.size + 1, 5, none⟩ = some (.slice (some ⟨b', f', none⟩) cn dc) ∧ W.cell? ⟨b, f + k * 3, none⟩ = some (.int .i64 o.C.n) ∧ W.cell? ⟨b, f + k * 3 + 1, none⟩ = some (.slice o.A o.n o.c) ∧ W.cell? ⟨b, f + k * 3 + 2, none⟩ = some (.slice o.B o.m o.d) ∧ W.cell? ⟨b', f' + k * 3, none⟩ = some (.int .i64 p.C.n) ∧ W.cell? ⟨b', f' + k * 3 + 1, none⟩ = some (.slice p.A p.n p.c) ∧ W.cell? ⟨b', f' + k * 3 + 2, none⟩ = some (.slice p.B p.m p.d)) (with_reducible first | exact z10) (first
          | (go_at_call 40; (with_reducible refine (Cs.out _ hb).mono ?_); rintro e w5 ⟨rfl, hB5⟩; have hb := hb.trans (hB5.mono hb.size); have z10 := ZZ.out _ hb))
        all_goals (
          go_wp2_with fail
          go_meet
          exact ⟨rfl, hb⟩)
      case rest =>
        obtain ⟨rfl, hbc⟩ := hcut
        have Hb5 := Lib.hid (HI.out.2.trans (hbc.mono HI.out.2.size))
        clear hbc ZZ Cs
        by_cases hv : o.C = p.C
        · obtain rfl : fv = true := by rw [Hfv.out]; exact tr_yes hv
          have I6 := Lib.hid (show (∀ j, j < k + 1 → (os.getD j default).C = (ps.getD j default).C) ∧ Below w2.heap.size w2 wc from ⟨fun j h1 => by
            by_cases z : j = k
            · rw [z, ← Ho.out, ← Hp.out]; exact hv
            · exact HI.out.1 j (by omega), Hb5.out⟩)
          clear HI hv
          go_wp2_with fail
          go_roundw
          case rel => exact ⟨k + 1, by go_num, by omega, I6⟩
          case measure => simp [intOf]; omega
        · obtain rfl : fv = false := by rw [Hfv.out]; exact tr_no hv
          have t2 := Lib.hid (Hbad.out hv)
          clear HI hv
          go_wp2_with fail
          go_ret
          exact ⟨by rw [t2.out]; rfl, H2.out.trans (Hb5.out.mono H2.out.size)⟩
    · have hkI : ¬ (k : Int) < (cn : Int) := by omega
      have t6 := Lib.hid (Hyes.out (Seg.ext' P1.out P2.out P3.out P4.out P0.out (by
        rw [HX.out.eq, HY.out.eq]
        exact cols_ext (by rw [← Hcn.out, ← Hdn.out]) fun j hj => hI.out.1 j (by have := Hcn.out; omega))))
      have H3 := Lib.hid (H2.out.trans (hI.out.2.mono H2.out.size))
      clear hI
      go_wp2_with fail
      go_ret
      exact ⟨by rw [t6.out]; rfl, H3.out⟩
end Se
end Go.Proofs.YtoibpbnebcoafaaGreat
namespace Go.Proofs.YtoibpbnebcoafaaGreat
set_option maxRecDepth 20000
open Go.RowKit
namespace Cx
open Va (Vl May ord null)
open Sc (tr tr_yes tr_no tr_iff)
open Co
/-- Which numbers below so many have come among the first k. -/
def Seen (l : List Int) (sb : List Bool) (n k : Nat) : Prop := sb.length = n ∧ ∀ j, j < n → sb.getD j false = decide ((j : Int) ∈ l.take k)
theorem seen_zero (l : List Int) (n : Nat) : Seen l (List.replicate n false) n 0 := ⟨by simp, fun j hj => by simp [List.getD, hj]⟩
theorem seen_next {l : List Int} {sb : List Bool} {n k p : Nat} (h : Seen l sb n k) (hk : k < l.length) (hp : l.getD k 0 = (p : Int)) (hpn : p < n) : Seen l (sb.set p true) n (k + 1) := by
  refine ⟨by simpa using h.1, fun j hj => ?_⟩
  have ht : l.take (k + 1) = l.take k ++ [(p : Int)] := by
    rw [List.take_succ_eq_append_getElem hk]
    rw [List.getD_eq_getElem?_getD, List.getElem?_eq_getElem hk, Option.getD_some] at hp
    rw [hp]
  rw [ht]
  by_cases e : p = j
  · subst e
    have : p < sb.length := by rw [h.1]; exact hpn
    simp [List.getD, this]
  · have h2 := h.2 j hj
    have : (sb.set p true).getD j false = sb.getD j false := by
      simp [List.getD, List.getElem?_set_ne e]
    rw [this, h2]
    refine decide_eq_decide.2 ?_
    rw [List.mem_append, List.mem_singleton]
    constructor
    · exact .inl
    · rintro (q | q)
      · exact q
      · omega
set_option maxHeartbeats 8000000 in
theorem refIds_any (A : Option Addr) (n c : Nat) (B : Option Addr) (m d : Nat) (C : Col) (w : World) (h : Cl w A n c B m d C) (hn : n ≤ 100000) (hm : m ≤ 1000000) :
    Calls Tryz.prog 53 #[.agg #[.int .i64 C.n, .slice A n c, .slice B m d]] w (OutB w (nums C) (tr (Valid C))) := by
  obtain ⟨i0, hi, hz0, hz1, hz2⟩ := info_parts info_b
  have hb0 := (Below.refl w.heap.size w).alloc (Nat.le_refl _) (.cells #[.int .i64 C.n, .slice A n c, .slice B m d] 70)
  have x0 := Cb.new w C.n A n c B m d
  have h1 := h.below hb0
  have hcap := h.dict.cap
  have hmx := h.dict.max
  have hcap2 := h.ids.cap
  have hmx2 := h.ids.max
  unfold maxLen at hmx hmx2
  have n0 := h.n0
  have n1 := h.n1
  have hnl : n = C.dict.length := h.dict.len
  have C1 := Lib.hid (Dx.refRises_any A n c C.dict _ h1.dict h1.str)
  have Cw := Lib.hid fun w => width_any n (by omega) w
  have Cu := Lib.hid fun w' (hb : Below w.heap.size w w') => Bc.refUn_any B m d C.n (wdt C.dict) C.ids w' (h.ids.below hb) h.byt hm
  have Hb0 := Lib.hid hb0
  have Hn := Lib.hid hnl
  obtain ⟨r, hr⟩ : ∃ r, r = tr (Valid C) := ⟨_, rfl⟩
  obtain ⟨L, hL⟩ : ∃ L, L = nums C := ⟨_, rfl⟩
  rw [← hr, ← hL]
  have Hr := Lib.hid hr
  have HL := Lib.hid hL
  obtain ⟨rs, hrs⟩ : ∃ rs, rs = tr (Dc.Ris C.dict) := ⟨_, rfl⟩
  rw [← hrs] at C1
  have Hrs := Lib.hid hrs
  obtain ⟨W, hW⟩ : ∃ W, W = wdt C.dict := ⟨_, rfl⟩
  have HW := Lib.hid hW
  have e3 : Bc.wid ((n : Int) - 1) = W := by rw [hW, hnl]; rfl
  rw [e3] at Cw
  rw [← hW] at Cu
  obtain ⟨N, hN⟩ : ∃ N, N = C.n := ⟨_, rfl⟩
  rw [← hN] at x0 C1 Cu Hb0 n0 n1 ⊢
  have HN := Lib.hid hN
  obtain ⟨E, hE⟩ : ∃ E, E = Bc.unE C.ids N W := ⟨_, rfl⟩
  obtain ⟨U, hU⟩ : ∃ U, U = Bc.unL C.ids N W := ⟨_, rfl⟩
  rw [← hE, ← hU] at Cu
  have HE := Lib.hid (show E = Bc.unE C.ids C.n (wdt C.dict) by rw [hE, hN, hW])
  have HU := Lib.hid (show U = un C by rw [hU, hN, hW]; rfl)
  clear hE hU
  have bad : ¬ Valid C → Hid (r = false ∧ L = []) := fun q => Lib.hid ⟨by rw [Hr.out, tr_no q], by rw [HL.out, nums_no q]⟩
  have Bad := Lib.hid bad
  clear h hb0 h1 hnl hr hL hrs hW e3 hN bad
  have c0 := x0.c0
  have c1 := x0.c1
  have c2 := x0.c2
  go_enter Tryz.func53, Tryz.ntmps53
  go_wp2_with fail
  refine C1.out.mono ?_
  rintro e w1 ⟨rfl, hB1⟩
  have y0 := x0.below (by simp) hB1
  have c0' := y0.c0
  have c1' := y0.c1
  have c2' := y0.c2
  have HB1 := Lib.hid (Hb0.out.trans (hB1.mono (by simp)))
  clear c0 c1 c2 x0 hB1
  by_cases hN0 : N < 0
  · have hq := (Bad.out fun q => by have := q.n0; have := HN.out; omega).out
    have hd0 : decide (N < 0) = true := decide_eq_true hN0
    have HQ := Lib.hid hq
    clear hq
    go_wp2_with fail
    go_ret2
    exact ⟨_, _, _, by rw [HQ.out.1]; rfl, by rw [HQ.out.2]; exact Wd.Sl.none_ _ _, HB1.out⟩
  have hd0 : decide (N < 0) = false := decide_eq_false hN0
  by_cases hN1 : 4096 < N
  · have hq := (Bad.out fun q => by have := q.n1; have := HN.out; omega).out
    have hd1 : decide (4096 < N) = true := decide_eq_true hN1
    have HQ := Lib.hid hq
    clear hq
    go_wp2_with fail
    go_ret2
    exact ⟨_, _, _, by rw [HQ.out.1]; rfl, by rw [HQ.out.2]; exact Wd.Sl.none_ _ _, HB1.out⟩
  have hd1 : decide (4096 < N) = false := decide_eq_false hN1
  cases rs with
  | false =>
    have hq := (Bad.out fun q => by have := Hrs.out; rw [tr_yes q.ris] at this; cases this).out
    have HQ := Lib.hid hq
    clear hq
    go_wp2_with fail
    go_ret2
    exact ⟨_, _, _, by rw [HQ.out.1]; rfl, by rw [HQ.out.2]; exact Wd.Sl.none_ _ _, HB1.out⟩
  | true =>
  have hris := Lib.hid (show Dc.Ris C.dict from tr_iff.1 Hrs.out.symm)
  have Cv := Lib.hid fun w => ((Cw.out w).mono fun e w' h => ⟨h.1, by rw [h.2]; exact Below.refl _ _⟩ : Calls Tryz.prog 67 #[.int .i64 (n : Int)] w fun e w' => e = .returned (.int .i64 (W : Int)) ∧ Below w.heap.size w w')
  have hsw : w.heap.size < w1.heap.size := y0.lt
  go_wp2_with fail
  have hb := (Below.refl w1.heap.size w1).drew
  have z10 : w1.drew.cell? ⟨w.heap.size, 0, none⟩ = some (.int .i64 N) ∧ w1.drew.cell? ⟨w.heap.size, 1, none⟩ = some (.slice A n c) ∧ w1.drew.cell? ⟨w.heap.size, 2, none⟩ = some (.slice B m d) := ⟨c0', c1', c2'⟩
  go_region_held3 (fun w' => w'.cell? ⟨w.heap.size, 0, none⟩ = some (.int .i64 N) ∧ w'.cell? ⟨w.heap.size, 1, none⟩ = some (.slice A n c) ∧ w'.cell? ⟨w.heap.size, 2, none⟩ = some (.slice B m d)) (with_reducible first | exact z10) (first
    | (go_at_call 67; (with_reducible refine (Cv.out _).mono ?_); rintro e wz ⟨rfl, hBz⟩; have hb := hb.trans (hBz.mono hb.size); have y9 := y0.below hsw hb; have z10 := And.intro y9.c0 (And.intro y9.c1 y9.c2))
    | (go_at_call 80; refine (Cu.out _ (HB1.out.trans (hb.mono HB1.out.size))).mono ?_; rintro e wz ⟨P, p, q, rfl, hSu, hBz⟩; have hb := hb.trans (hBz.mono hb.size); have y9 := y0.below hsw hb; have z10 := And.intro y9.c0 (And.intro y9.c1 y9.c2)))
  have HBz := Lib.hid (HB1.out.trans (hb.mono HB1.out.size))
  have c1'' := z10.2.1
  clear z10 c0' c1' c2' Cu Cv Cw C1 hBz hb
  by_cases hE0 : E = 0
  case neg =>
    have hq := (Bad.out fun q => hE0 (HE.out.trans q.un0)).out
    have hd2 : (E == 0) = false := by simpa using hE0
    have HQ := Lib.hid hq
    clear hq
    go_wp2_with fail
    go_ret2
    exact ⟨_, _, _, by rw [HQ.out.1]; rfl, by rw [HQ.out.2]; exact Wd.Sl.none_ _ _, HBz.out⟩
  subst hE0
  have hUl := hSu.len
  have hUc := hSu.cap
  have hUm := hSu.max
  unfold maxLen at hUm
  have HSu := Lib.hid hSu
  have HUl := Lib.hid hUl
  have hp1 : p ≤ 4096 := by
    have h1 := un_len HE.out.symm
    rw [← HU.out, ← HN.out, ← HUl.out] at h1
    omega
  have y9lt := y9.lt
  clear hSu hUl
  go_wp2_with (at_make; refine wpList_make_full _ rfl (.tmp 41) (.tmp 41) 51 rfl wz.heap.size 4 i0 _ 1 Tryz.underlying51 hi hz0 hz1 .i64 .i64 (n : Int) (n : Int) n rfl rfl rfl rfl (by rw [hz2]; omega) (by unfold maxLen; omega) (Nat.le_refl _) ?_; intro w3 hown hgrow; rw [made_false] at hown)
  obtain ⟨hR0, hg0, -⟩ := RowB.of_own hown
  have hB3 : Below wz.heap.size wz w3 := (Below.refl _ _).grown hgrow (Nat.le_refl _) (by simp)
  have hgl := hR0.lt
  have HB3 := Lib.hid hB3
  have c3 := (y9.below y9lt hB3).c1
  clear hown hgrow hB3 c1''
  go_loopw [8] (fun j wr => ∃ (k : Nat) (sb : List Bool), j = .int .i64 k ∧ k ≤ p ∧ RowB wr wz.heap.size sb ∧ Hid (Seen U sb n k) ∧ Hid (∀ i, i < k → U.getD i 0 < (n : Int)) ∧ Below wz.heap.size w3 wr) (fun j _ => p - (intOf j).toNat)
  case atStart => exact ⟨0, _, rfl, Nat.zero_le _, hR0, Lib.hid (seen_zero U n), Lib.hid (fun i hi => by omega), Below.refl _ _⟩
  case round =>
    obtain ⟨k, sb, rfl, hk, hR, hS, hlt, hB⟩ := hrel
    have hbw := HB3.out.trans hB
    have c4 := (y9.below y9lt hbw).c1
    clear c3
    by_cases hkp : k < p
    · have hkI : (k : Int) < p := by omega
      have hk0 : (0 : Int) ≤ (k : Int) := by omega
      have hkU : k < U.length := by rw [← HUl.out]; exact hkp
      obtain ⟨b, o, hP, hbl, hc⟩ := (HSu.out.below hbw).rd k hkU
      subst hP
      obtain ⟨x, hx⟩ : ∃ x, x = U.getD k 0 := ⟨_, rfl⟩
      have hx0 : 0 ≤ x := by
        rw [hx, List.getD_eq_getElem?_getD, List.getElem?_eq_getElem hkU]
        exact un_bd C _ (by rw [← HU.out]; exact List.getElem_mem hkU)
      rw [← hx] at hc
      have Hx := Lib.hid hx
      have HkU := Lib.hid hkU
      clear hx hkU
      by_cases hxn : x < (n : Int)
      · obtain ⟨z, hz⟩ : ∃ z : Nat, x = (z : Int) := ⟨x.toNat, by omega⟩
        subst hz
        have hzn : z < n := by omega
        have hsl := hS.out.1
        have hnext := Lib.hid (seen_next hS.out HkU.out Hx.out.symm hzn)
        have hR2 := Lib.hid hR
        have hf := hR.free z
        have hcz := hR.cell z (by omega)
        have hd3 : decide ((n : Int) ≤ (z : Int)) = false := decide_eq_false (by omega)
        have HB := Lib.hid hB
        have hlt2 := Lib.hid (show ∀ i, i < k + 1 → U.getD i 0 < (n : Int) from fun i hi => by
          by_cases e : i = k
          · rw [e, ← Hx.out]; exact hxn
          · exact hlt.out i (by omega))
        clear hS hR hB hlt hbw hsl
        go_wp2_with fail
        go_quiet (fail)
        go_wp2_with fail
        go_roundw
        case rel => exact ⟨k + 1, sb.set z true, by go_num, by omega, hR2.out.set z true, hnext, hlt2, (Wd.below_drewN HB.out _).setCell (Nat.le_refl _) _⟩
        case measure => simp [intOf]; omega
      · have hq := (Bad.out fun q => by
          have h1 := q.lt x (by
            rw [Hx.out, ← HU.out, List.getD_eq_getElem?_getD, List.getElem?_eq_getElem HkU.out]
            exact List.getElem_mem HkU.out)
          rw [← Hn.out] at h1
          omega).out
        have HQ := Lib.hid hq
        have hd3 : decide ((n : Int) ≤ x) = true := decide_eq_true (by omega)
        have HB := Lib.hid (HBz.out.trans (hbw.mono HBz.out.size))
        clear hq hB hbw
        go_wp2_with fail
        go_quiet (fail)
        go_wp2_with fail
        go_ret2
        exact ⟨_, _, _, by rw [HQ.out.1]; rfl, by rw [HQ.out.2]; exact Wd.Sl.none_ _ _, Wd.below_drewN HB.out _⟩
    · have hkI : ¬ (k : Int) < p := by omega
      have hfin := Lib.hid (show sb.length = n ∧ ∀ j, j < n → sb.getD j false = decide ((j : Int) ∈ U) from ⟨hS.out.1, fun j hj => by
        have := hS.out.2 j hj
        rwa [List.take_of_length_le (by rw [← HUl.out]; omega)] at this⟩)
      have hall := Lib.hid (show ∀ x ∈ U, x < (n : Int) from fun x hx => by
        obtain ⟨i, hi, e⟩ := List.getElem_of_mem hx
        have := hlt.out i (by rw [← HUl.out] at hi; omega)
        rw [List.getD_eq_getElem?_getD, List.getElem?_eq_getElem hi, Option.getD_some, e] at this
        exact this)
      have HBr := Lib.hid (HBz.out.trans (hbw.mono HBz.out.size))
      have HSr := Lib.hid (HSu.out.below hbw)
      have HR := Lib.hid hR
      clear hS hlt hB hbw hR c4 hR0
      obtain ⟨wo, rfl⟩ : ∃ wo : World, wo = wr := ⟨_, rfl⟩
      go_wp2_with fail
      go_loopw [9] (fun j wr => ∃ (k : Nat), j = .int .i64 k ∧ k ≤ n ∧ wr = wo ∧ Hid (∀ i, i < k → ((i : Nat) : Int) ∈ U)) (fun j _ => n - (intOf j).toNat)
      case atStart => exact ⟨0, rfl, Nat.zero_le _, rfl, Lib.hid (fun i hi => by omega)⟩
      case round =>
        obtain ⟨k, rfl, hk, rfl, hin⟩ := hrel
        by_cases hkn : k < n
        · have hkI : (k : Int) < n := by omega
          have hk0 : (0 : Int) ≤ (k : Int) := by omega
          have hcz := HR.out.cell k (by rw [hfin.out.1]; exact hkn)
          rw [hfin.out.2 k hkn] at hcz
          by_cases hmem : (k : Int) ∈ U
          · rw [decide_eq_true hmem] at hcz
            have hin2 := Lib.hid (show ∀ i, i < k + 1 → ((i : Nat) : Int) ∈ U from fun i hi => by
              by_cases e : i = k
              · rw [e]; exact hmem
              · exact hin.out i (by omega))
            clear hin hmem
            go_wp2_with fail
            go_roundw
            case rel => exact ⟨k + 1, by go_num, by omega, trivial, hin2⟩
            case measure => simp [intOf]; omega
          · rw [decide_eq_false hmem] at hcz
            have hq := (Bad.out fun q => hmem (by rw [HU.out]; exact q.all k (by rw [← Hn.out]; exact hkn))).out
            have HQ := Lib.hid hq
            clear hq hmem hin
            go_wp2_with fail
            go_ret2
            exact ⟨_, _, _, by rw [HQ.out.1]; rfl, by rw [HQ.out.2]; exact Wd.Sl.none_ _ _, HBr.out⟩
        · have hkI : ¬ (k : Int) < n := by omega
          have hv : Valid C := ⟨by rw [← HN.out]; omega, by rw [← HN.out]; omega, hris.out, HE.out.symm, fun x hx => by rw [← Hn.out]; exact hall.out x (by rw [HU.out]; exact hx), fun j hj => by rw [← HU.out]; exact hin.out j (by rw [← Hn.out] at hj; omega)⟩
          have HQ := Lib.hid (show r = true ∧ L = U from ⟨by rw [Hr.out, tr_yes hv], by rw [HL.out, nums_yes hv, HU.out]⟩)
          clear hv hin
          go_wp2_with fail
          go_ret2
          exact ⟨_, _, _, by rw [HQ.out.1]; rfl, by rw [HQ.out.2]; exact HSr.out, HBr.out⟩
end Cx
end Go.Proofs.YtoibpbnebcoafaaGreat
