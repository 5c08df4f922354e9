/- The walk of RowsColumns: a column's different values are as many as it has; rows told column by column are the rows. -/
import Derived.BigQuiet
import Derived.Deep.QuietTactic
import Derived.Test.YtfeolclpgilfdaaPk20
namespace Go.Proofs.Ytfeolclpgilfdaa
set_option maxRecDepth 20000
open Go.RowKit Go.Maps
namespace Rw
open Va (Vl May null)
open Sc (Sch FitS MayS fits fits_get tr tr_yes tr_no tr_iff tr_congr)
open Wd (Rcd)
set_option maxHeartbeats 16000000 in
theorem rowsColumns_walk (A : Option Addr) (n c : Nat) (s : Sch) (B : Option Addr) (m d : Nat) (l : List Rcd) (w : World) (hS : Wd.Cs w A n c s.cols) (hL : Wd.Rcs w B m d l) :
    Calls Try.prog 7 #[.agg #[.slice A n c, .int .i64 s.key, .int .i64 s.cmp, .int .i64 s.del, .int .i64 s.sort], .slice B m d] w fun e w' => e = .returned (.bool true) ∧ Below w.heap.size w w' := by
  have hb0 := (Below.refl w.heap.size w).alloc (Nat.le_refl _) (.cells #[.slice A n c, .int .i64 s.key, .int .i64 s.cmp, .int .i64 s.del, .int .i64 s.sort] 24)
  have s0 : Sx.Sb (w.alloc (.cells #[.slice A n c, .int .i64 s.key, .int .i64 s.cmp, .int .i64 s.del, .int .i64 s.sort] 24)) w.heap.size A n c s.key s.cmp s.del s.sort := Wd.Bx.new w _ _
  have Hl := Lib.hid hS.len
  have Hm := Lib.hid hL.len
  have HS := Lib.hid hS
  have HL := Lib.hid hL
  have hcap := hS.cap
  have hcapl := hL.cap
  have Hb0 := Lib.hid hb0
  have S0 := Lib.hid s0
  clear hS hL hb0 s0
  go_enter Try.func7, Try.ntmps7
  go_wp2_with fail
  generalize w.alloc (.cells #[.slice A n c, .int .i64 s.key, .int .i64 s.cmp, .int .i64 s.del, .int .i64 s.sort] 24) = wa at *
  refine (awake_any wa).mono ?_
  rintro e w1 ⟨rfl, hB1⟩
  have hb1 := Hb0.out.trans (hB1.mono Hb0.out.size)
  have S1 := Lib.hid (S0.out.below (Wd.Bx.lt S0.out) hB1)
  obtain ⟨p0, p1, p2, p3, p4⟩ := Sx.five S1.out
  have Hb1 := Lib.hid hb1
  clear hB1 hb1 S0 Hb0
  go_wp2_with fail
  have Cf := Lib.hid (Sx.Few_any A n c s w1 (HS.out.below Hb1.out))
  obtain ⟨u, hu⟩ : ∃ u, u = tr (Sx.FewS s) := ⟨_, rfl⟩
  rw [← hu] at Cf
  have Hu := Lib.hid hu
  clear hu
  refine Cf.out.mono ?_
  rintro e w2 ⟨rfl, hB2⟩
  have Hb2 := Lib.hid (Hb1.out.trans (hB2.mono Hb1.out.size))
  have S2 := Lib.hid (S1.out.below (Wd.Bx.lt S1.out) hB2)
  clear p0 p1 p2 p3 p4 hB2 Cf S1 Hb1
  cases u with
  | false =>
    go_wp2_with fail
    go_ret
    exact ⟨rfl, Hb2.out⟩
  | true =>
  have hn12 : n ≤ 12 := by have := (tr_iff.1 Hu.out.symm).1; have := Hl.out; omega
  have Cg := Lib.hid (few_any B m d l w2 (HL.out.below Hb2.out))
  by_cases hR : FewR l
  case neg =>
    rw [tr_no hR] at Cg
    clear hR
    go_wp2_with fail
    refine Cg.out.mono ?_
    rintro e w3 ⟨rfl, e3⟩
    subst e3
    go_wp2_with fail
    go_ret
    exact ⟨rfl, Hb2.out⟩
  rw [if_pos (tr_yes hR)] at Cg
  have hm60 : m ≤ 60 := by have := hR.1; have := Hm.out; omega
  clear hR
  go_wp2_with fail
  refine Cg.out.mono ?_
  rintro e wo ⟨rfl, e3⟩
  subst e3
  obtain ⟨p0, p1, p2, p3, p4⟩ := Sx.five S2.out
  have So := Lib.hid S2.out
  have HSo := Lib.hid (HS.out.below Hb2.out)
  have HLo := Lib.hid (HL.out.below Hb2.out)
  have Cn := Lib.hid (ob_new 4096 4096 (Below.refl _ _) HSo.out (by omega))
  clear Cg S2
  go_wp2_with fail
  refine Cn.out.mono ?_
  rintro e w4 ⟨hB4, ⟨hM, rfl⟩ | ⟨hM, r, F, rfl, hO, -⟩⟩
  · clear p0 p1 p2 p3 p4 Cn
    have Hb4 := Lib.hid (Hb2.out.trans (hB4.mono Hb2.out.size))
    clear hB4 hM
    go_wp2_with fail
    go_ret
    exact ⟨rfl, Hb4.out⟩
  have HO := Lib.hid hO
  have HM := Lib.hid hM
  clear p0 p1 p2 p3 p4 Cn hB4 hO hM
  go_wp2_with fail
  go_loopw [9] (fun i wr => ∃ (k : Nat) (S : St) (F : Nat → Prop), i = .int .i64 k ∧ k ≤ m ∧ Hid (Ob wo wr r S F) ∧ Hid (S.s = s)) (fun i _ => m - (intOf i).toNat)
  case atStart => exact ⟨0, _, F, rfl, Nat.zero_le _, HO, Lib.hid rfl⟩
  case round =>
    clear HO F
    obtain ⟨k, S, F, rfl, hk, hO, hQ⟩ := hrel
    by_cases hlt : k < m
    · obtain ⟨x, hx⟩ : ∃ x, x = l.getD k default := ⟨_, rfl⟩
      obtain ⟨b, o, hA, hbF, hbw, ⟨c0, c1⟩, hV, hwf, hrF⟩ := rec_at HLo.out hO.out (by rw [← Hm.out]; exact hlt) hx
      subst hA
      have hkI : (k : Int) < (m : Int) := by omega
      have Ca := Lib.hid (ob_append (w := wr.drew) x.off (hO.out.below (Below.refl _ _).drew) (hV.below (Below.refl _ _).drew) hrF)
      have hwb := bounds_i64 hwf
      have hQ' : Hid ((app S x.row x.off).s = s) := Lib.hid ((app_s S x.row x.off).1.trans hQ.out)
      clear hV hx hwf hrF hbF
      go_wp2_with fail
      refine wp_region_still_tail 11 (by kernel_rfl) (by kernel_rfl) ?_
      simp only [List.take_succ_cons, List.take_zero, List.drop_succ_cons, List.drop_zero]
      refine Sk.St.out ?_
      iterate 11 (refine Sk.want (by kernel_rfl) (fun K hK => ?_); go_simp; refine hK _ ?_; clear hK K)
      refine Sk.nil ?_
      change wpList _ _ _ _ _ wr.drew
      clear c0 c1
      go_wp2_with fail
      refine Ca.out.mono ?_
      rintro e w5 ⟨rfl, -, F', hO5, -⟩
      have HO5 := Lib.hid hO5
      clear hO5 Ca hO hQ
      go_wp2_with fail
      go_roundw
      case rel => exact ⟨k + 1, _, F', by go_num, by omega, HO5, hQ'⟩
      case measure => simp [intOf]; omega
    · have hkI : ¬ (k : Int) < (m : Int) := by omega
      clear hlt
      go_wp2_with fail
      go_loopw [10] (fun q wq => ∃ q' : Nat, q = .int .i64 q' ∧ q' ≤ n ∧ Hid (Ob wo wq r S F)) (fun q _ => n - (intOf q).toNat)
      case atStart => exact ⟨0, rfl, Nat.zero_le _, hO⟩
      case round =>
        clear hO hkI hk
        obtain ⟨q, rfl, hq, hOq⟩ := hrel
        obtain ⟨p0, -, -, -, -⟩ := Sx.five (So.out.below (Wd.Bx.lt So.out) hOq.out.bel)
        by_cases hqn : q < n
        case neg =>
          have hqI : ¬ (q : Int) < (n : Int) := by omega
          go_wp2_with fail
          go_ret
          exact ⟨rfl, Hb2.out.trans (hOq.out.bel.mono Hb2.out.size)⟩
        have hqI : (q : Int) < (n : Int) := by omega
        have hqs : q < S.s.cols.length := by rw [hQ.out, ← Hl.out]; exact hqn
        have Cc := Lib.hid (column_in hOq.out.mem hOq.out.ok q hqs)
        obtain ⟨N, hN⟩ : ∃ N, N = S.rows.length := ⟨_, rfl⟩
        obtain ⟨C, hC⟩ : ∃ C, C = col S.rows q := ⟨_, rfl⟩
        rw [← hN, ← hC] at Cc
        have HCN := Lib.hid (show N = C.length by rw [hC, col_len, hN])
        have HC := Lib.hid hC
        have HN := Lib.hid hN
        have HC1 := Lib.hid (show ∀ v ∈ C, Wd.V1 v from fun v hv => Sx.v1_of (col_ok hOq.out.ok hqs v (by rw [← hC]; exact hv)))
        have hN4 : N ≤ 4096 := by have := hOq.out.ok.few; have := hOq.out.ok.m1; omega
        clear hN hC
        go_wp2_with fail
        refine Cc.out.mono ?_
        rintro e w5 ⟨gc, rfl, hR5, hg5, hB5⟩
        have HO5 := Lib.hid (hOq.out.below hB5)
        have HR5 := Lib.hid hR5
        clear hR5 hg5 hB5 Cc hOq p0
        go_wp2_with fail
        go_loopw [13, 12] (fun i ov wi => ∃ p : Nat, i = .int .i64 p ∧ p ≤ N ∧ wi.ownsRow w5.heap.size 49 4 ov (ow (C.take p)).length (Wd.flatV (ow (C.take p))) ∧ Below w5.heap.size w5 wi) (fun i _ _ => N - (intOf i).toNat)
        case atStart => exact ⟨0, rfl, Nat.zero_le _, World.ownsRow_nil _ _ _ _, Below.refl _ _⟩
        case round =>
          obtain ⟨p, rfl, hp, hown, hB⟩ := hrel
          obtain ⟨wi, rfl⟩ : ∃ wi : World, wi = wr := ⟨_, rfl⟩
          obtain ⟨L, hL⟩ : ∃ L, L = ow (C.take p) := ⟨_, rfl⟩
          rw [← hL] at hown
          have HLp := Lib.hid hL
          obtain ⟨Ao, co, rfl⟩ := Dt.own_shape hown
          obtain ⟨nL, hnL⟩ : ∃ nL, nL = L.length := ⟨_, rfl⟩
          rw [← hnL] at hown ⊢
          have HnL := Lib.hid hnL
          have hnL4 : nL ≤ 4096 := by rw [hnL, hL]; have := ow_len (C.take p); rw [List.length_take] at this; omega
          have hO := HO5.out.below hB
          have HOi := Lib.hid hO
          have HBi := Lib.hid hB
          have Hown := Lib.hid hown
          have HRi := Lib.hid (Wd.RowV.below HR5.out HR5.out.lt hB)
          clear hL hnL hO hB hown
          by_cases hpN : p < N
          case neg =>
            have hpI : ¬ (p : Int) < (N : Int) := by omega
            have hLC : L = ow C := by rw [HLp.out, List.take_of_length_le (by have := HCN.out; omega)]
            have Cl := Lib.hid (ob_len HOi.out)
            rw [← HN.out] at Cl
            have Cv := Lib.hid (values_in HOi.out.mem HOi.out.ok q hqs)
            rw [← HC.out, ← hLC, ← HnL.out] at Cv
            clear hLC
            go_wp2_with fail
            refine Cl.out.mono ?_
            rintro e w6 ⟨rfl, e6⟩
            subst e6
            go_wp2_with fail
            refine Cv.out.mono ?_
            rintro e w7 ⟨rfl, hB7⟩
            have HO7 := Lib.hid (HOi.out.below hB7)
            clear hB7 Cv Cl
            go_wp2_with fail
            go_roundw
            case rel => exact ⟨q + 1, by go_num, by omega, HO7⟩
            case measure => simp [intOf]; omega
          have hpI : (p : Int) < (N : Int) := by omega
          have hpC : p < C.length := by rw [← HCN.out]; exact hpN
          obtain ⟨x, hx⟩ : ∃ x, x = C.getD p default := ⟨_, rfl⟩
          obtain ⟨x0, x1, x2, x3⟩ := rowv_cells HRi.out hpC hx
          have Hx := Lib.hid hx
          have hLV : ∀ j, j < L.length → Wd.V1 (L.getD j default) := fun j hj => HC1.out _ (by
            have h5 : L.getD j default ∈ L := by rw [List.getD_eq_getElem?_getD, List.getElem?_eq_getElem hj]; exact List.getElem_mem hj
            exact List.mem_of_mem_take (i := p) (mem_ow.1 (by rw [← HLp.out]; exact h5)))
          obtain ⟨A', n', c', he, hVs⟩ := Wd.Vs.of_own Hown.out hLV
          cases he
          have HVs := Lib.hid hVs
          have hcapv := hVs.cap
          clear hx hLV hVs hpC
          go_wp2_with fail
          go_loopw [15, 14] (fun j bv wj => ∃ (q' : Nat) (b : Bool) (z : Nat), j = .int .i64 q' ∧ bv = .bool b ∧ q' ≤ nL ∧ Hid (b = decide (x ∈ L.take q')) ∧ wj = wi.drewN z) (fun j _ _ => nL - (intOf j).toNat)
          case atStart => exact ⟨0, false, 0, rfl, rfl, Nat.zero_le _, Lib.hid (by simp), rfl⟩
          case round =>
            obtain ⟨q', b, z, rfl, rfl, hq', hb, rfl⟩ := hrel
            by_cases hqL : q' < nL
            · have hqI' : (q' : Int) < (nL : Int) := by omega
              have hqL2 : q' < L.length := by rw [← HnL.out]; exact hqL
              obtain ⟨e, f, hR, heB, d0, d1, d2, d3, -⟩ := HVs.out.cells (j := q') hqL2 rfl
              subst hR
              obtain ⟨y, hy⟩ : ∃ y, y = L.getD q' default := ⟨_, rfl⟩
              rw [← hy] at d0 d1 d2 d3
              have hst := mem_next hqL2 x
              rw [← hb.out, ← hy] at hst
              have hgt : Try.prog.eqGuardType Try.prog.depth 49 = false := by kernel_rfl
              have heq := fun w => Vc.eqV y.kind y.i y.s y.b x.kind x.i x.s x.b w
              obtain ⟨u, hu⟩ : ∃ u, u = decide (y = x) := ⟨_, rfl⟩
              have e1 : decide (y.kind = x.kind ∧ y.i = x.i ∧ y.s = x.s ∧ y.b = x.b) = u := by rw [hu, Bool.eq_iff_iff, decide_eq_true_iff, decide_eq_true_iff]; exact veq
              rw [e1] at heq
              rw [← hu] at hst
              have Hst := Lib.hid hst
              clear hst hu e1 hy hb hqL2
              cases b with
              | true =>
                go_wp2_with fail
                go_quiet (fail)
                go_wp2_with fail
                go_roundw
                case rel => exact ⟨q' + 1, true, _, by go_num, rfl, by omega, Lib.hid (by rw [Hst.out]; rfl), by first | rfl | rw [World.drewN_drewN]⟩
                case measure => simp [intOf]; omega
              | false =>
                go_wp2_with fail
                go_quiet (fail)
                go_wp2_with fail
                go_roundw
                case rel => exact ⟨q' + 1, u, _, by go_num, rfl, by omega, Lib.hid (by rw [Hst.out]; rfl), by first | rfl | rw [World.drewN_drewN]⟩
                case measure => simp [intOf]; omega
            · have hqI' : ¬ (q' : Int) < (nL : Int) := by omega
              have hbx : b = decide (x ∈ L) := by rw [hb.out, List.take_of_length_le (by have := HnL.out; omega)]
              have Hbx := Lib.hid hbx
              clear hb hbx
              have HpC := Lib.hid (show p < C.length by rw [← HCN.out]; exact hpN)
              have hps : p < S.rows.length := by rw [← HN.out]; exact hpN
              obtain ⟨T, hT⟩ : ∃ T, T = S.rows.getD p [] := ⟨_, rfl⟩
              obtain ⟨n', hn'⟩ : ∃ n', n' = S.s.cols.length := ⟨_, rfl⟩
              obtain ⟨zo, hzo⟩ : ∃ zo, zo = S.offs.getD p 0 := ⟨_, rfl⟩
              have Ca := Lib.hid fun wx (h : Below w5.heap.size w5 wx) => at_in (HO5.out.below h).mem HO5.out.ok p hps
              rw [← hT, ← hn', ← hzo] at Ca
              have hTm : T ∈ S.rows := by rw [hT, List.getD_eq_getElem?_getD, List.getElem?_eq_getElem hps]; exact List.getElem_mem hps
              have HT := Lib.hid (show x = T.getD q default ∧ q < T.length from ⟨by rw [Hx.out, HC.out, col_get hps, hT], by rw [row_len HO5.out.ok hTm]; exact hqs⟩)
              have hqn' : (q : Int) < (n' : Int) := by omega
              have hqd : decide (n' ≤ q) = false := decide_eq_false (by omega)
              have hn8 : n' ≤ 8 := by rw [hn']; exact (cols_len HO5.out.ok).2
              have hnx := ow_next HpC.out
              rw [← HLp.out, ← Hx.out] at hnx
              have Hnx := Lib.hid hnx
              clear hT hn' hzo hTm hnx hps hqI'
              cases b with
              | true =>
                have hL2 : ow (C.take (p + 1)) = L := by rw [Hnx.out, put1_old (of_decide_eq_true Hbx.out.symm)]
                have HBw : Hid (Below w5.heap.size w5 (wi.drewN z)) := Lib.hid (Wd.below_drewN HBi.out z)
                have HOw : Hid ((wi.drewN z).ownsRow w5.heap.size 49 4 (.slice Ao nL co) (ow (C.take (p + 1))).length (Wd.flatV (ow (C.take (p + 1))))) := Lib.hid (by rw [hL2, ← HnL.out]; exact Hown.out)
                clear hL2
                go_wp2_with fail
                refine (Ca.out _ HBw.out).mono ?_
                rintro e w8 ⟨gr, rfl, hR8, hg8, hB8⟩
                have hb8 := HBw.out.trans (hB8.mono HBw.out.size)
                obtain ⟨x0, x1, x2, x3⟩ := rowv_cells (Wd.RowV.below HR5.out HR5.out.lt hb8) HpC.out Hx.out
                obtain ⟨y0, y1, y2, y3⟩ := rowv_cells hR8 HT.out.2 HT.out.1
                have Hb8 := Lib.hid hb8
                have hOw8 := Wd.own_below HOw.out hB8
                have HOw8 := Lib.hid hOw8
                clear hR8 hg8 hB8 hb8 hOw8 HBw HOw
                have hgt : Try.prog.eqGuardType Try.prog.depth 49 = false := by kernel_rfl
                have heq := fun w => Vc.eqV x.kind x.i x.s x.b x.kind x.i x.s x.b w
                rw [decide_eq_true (by simp)] at heq
                go_wp2_with fail
                go_quiet (fail)
                go_wp2_with fail
                go_roundw
                case rel => exact ⟨p + 1, by go_num, by omega, HOw8.out, Wd.below_drewN Hb8.out _⟩
                case measure => simp [intOf]; omega
              | false =>
                have hL2 : ow (C.take (p + 1)) = L ++ [x] := by rw [Hnx.out, put1_new (of_decide_eq_false Hbx.out.symm)]
                have hO5 : ((wi.drewN z).alloc (.cells #[.int .i64 x.kind, .int .i64 x.i, .string x.s, .bool x.b] 49)).ownsRow w5.heap.size 49 4 (.slice Ao nL co) L.length (Wd.flatV L) := (show (wi.drewN z).ownsRow w5.heap.size 49 4 (.slice Ao nL co) L.length (Wd.flatV L) by rw [← HnL.out]; exact Hown.out).alloc _
                have hcv := Wd.vals_new (wi.drewN z) x _ rfl
                have hA5 := (Wd.below_drewN HBi.out z).alloc (Wd.below_drewN HBi.out z).size (.cells #[.int .i64 x.kind, .int .i64 x.i, .string x.s, .bool x.b] 49)
                have hz5 : w5.heap.size ≤ ((wi.drewN z).alloc (.cells #[.int .i64 x.kind, .int .i64 x.i, .string x.s, .bool x.b] 49)).heap.size := hA5.size
                have hdk : L.length ≤ 1000000 := by rw [← HnL.out]; omega
                have Pk := Lib.hid (And.intro hL2 (And.intro hO5 hA5))
                clear hL2 hA5
                go_wp2_with (at_builtin; refine Wd.wpList_appV1 _ rfl (.tmp 95) (.tmp 100) rfl w5.heap.size _ L rfl hO5 _ x rfl hcv hdk hz5 ?_; intro v6 w6 hO6 hg6)
                have HBw : Hid (Below w5.heap.size w5 w6) := Lib.hid (Pk.out.2.2.grown hg6 hz5 fun g hg => (Pk.out.2.1.lt g hg).1)
                have HOw : Hid (w6.ownsRow w5.heap.size 49 4 v6 (ow (C.take (p + 1))).length (Wd.flatV (ow (C.take (p + 1))))) := Lib.hid (by rw [Pk.out.1]; exact hO6)
                clear hO6 hg6 hO5 hcv hz5 hdk Pk
                refine (Ca.out _ HBw.out).mono ?_
                rintro e w8 ⟨gr, rfl, hR8, hg8, hB8⟩
                have hb8 := HBw.out.trans (hB8.mono HBw.out.size)
                obtain ⟨x0, x1, x2, x3⟩ := rowv_cells (Wd.RowV.below HR5.out HR5.out.lt hb8) HpC.out Hx.out
                obtain ⟨y0, y1, y2, y3⟩ := rowv_cells hR8 HT.out.2 HT.out.1
                have Hb8 := Lib.hid hb8
                have hOw8 := Wd.own_below HOw.out hB8
                have HOw8 := Lib.hid hOw8
                clear hR8 hg8 hB8 hb8 hOw8 HBw HOw
                have hgt : Try.prog.eqGuardType Try.prog.depth 49 = false := by kernel_rfl
                have heq := fun w => Vc.eqV x.kind x.i x.s x.b x.kind x.i x.s x.b w
                rw [decide_eq_true (by simp)] at heq
                go_wp2_with fail
                go_quiet (fail)
                go_wp2_with fail
                go_roundw
                case rel => exact ⟨p + 1, by go_num, by omega, HOw8.out, Wd.below_drewN Hb8.out _⟩
                case measure => simp [intOf]; omega
end Rw
namespace Lw
theorem rowsColumns_walk (A : Option Addr) (n c : Nat) (s : Sc.Sch) (B : Option Addr) (m d : Nat) (l : List Wd.Rcd) (w : World) (hS : Wd.Cs w A n c s.cols) (_ : Wd.Sch1 s) (hL : Wd.Rcs w B m d l) :
    Calls Try.prog 7 #[.agg #[.slice A n c, .int .i64 s.key, .int .i64 s.cmp, .int .i64 s.del, .int .i64 s.sort], .slice B m d] w fun e w' => e = .returned (.bool true) ∧ Below w.heap.size w w' := Rw.rowsColumns_walk A n c s B m d l w hS hL
end Lw
end Go.Proofs.Ytfeolclpgilfdaa
