/- The walk of RowsLimits: there are never more rows than may be, nor more different values of a column. -/
import Derived.Test.YtfeolclpgilfdaaPk20
namespace Go.Proofs.Ytfeolclpgilfdaa
set_option maxRecDepth 20000
open Go.RowKit Go.Maps
namespace Rw
open Va (Vl May null)
open Sc (Sch FitS MayS fits fits_get tr tr_yes tr_no tr_iff tr_congr)
open Wd (Rcd)
set_option maxHeartbeats 8000000 in
theorem rowsLimits_walk (A : Option Addr) (n c : Nat) (s : Sch) (most vals : Int) (B : Option Addr) (m d : Nat) (l : List Rcd) (w : World) (hS : Wd.Cs w A n c s.cols) (hL : Wd.Rcs w B m d l) :
    Calls Try.prog 6 #[.agg #[.slice A n c, .int .i64 s.key, .int .i64 s.cmp, .int .i64 s.del, .int .i64 s.sort], .int .i64 most, .int .i64 vals, .slice B m d] w fun e w' => e = .returned (.bool true) ∧ Below w.heap.size w w' := by
  have hb0 := (Below.refl w.heap.size w).alloc (Nat.le_refl _) (.cells #[.slice A n c, .int .i64 s.key, .int .i64 s.cmp, .int .i64 s.del, .int .i64 s.sort] 24)
  have s0 : Sx.Sb (w.alloc (.cells #[.slice A n c, .int .i64 s.key, .int .i64 s.cmp, .int .i64 s.del, .int .i64 s.sort] 24)) w.heap.size A n c s.key s.cmp s.del s.sort := Wd.Bx.new w _ _
  have Hl := Lib.hid hS.len
  have Hm := Lib.hid hL.len
  have HS := Lib.hid hS
  have HL := Lib.hid hL
  have hcap := hS.cap
  have hcapl := hL.cap
  have Hb0 := Lib.hid hb0
  have S0 := Lib.hid s0
  clear hS hL hb0 s0
  go_enter Try.func6, Try.ntmps6
  go_wp2_with fail
  generalize w.alloc (.cells #[.slice A n c, .int .i64 s.key, .int .i64 s.cmp, .int .i64 s.del, .int .i64 s.sort] 24) = wa at *
  refine (awake_any wa).mono ?_
  rintro e w1 ⟨rfl, hB1⟩
  have hb1 := Hb0.out.trans (hB1.mono Hb0.out.size)
  have S1 := Lib.hid (S0.out.below (Wd.Bx.lt S0.out) hB1)
  obtain ⟨p0, p1, p2, p3, p4⟩ := Sx.five S1.out
  have Hb1 := Lib.hid hb1
  clear hB1 hb1 S0 Hb0
  go_wp2_with fail
  have Cf := Lib.hid (Sx.Few_any A n c s w1 (HS.out.below Hb1.out))
  obtain ⟨u, hu⟩ : ∃ u, u = tr (Sx.FewS s) := ⟨_, rfl⟩
  rw [← hu] at Cf
  have Hu := Lib.hid hu
  clear hu
  refine Cf.out.mono ?_
  rintro e w2 ⟨rfl, hB2⟩
  have Hb2 := Lib.hid (Hb1.out.trans (hB2.mono Hb1.out.size))
  have S2 := Lib.hid (S1.out.below (Wd.Bx.lt S1.out) hB2)
  clear p0 p1 p2 p3 p4 hB2 Cf S1 Hb1
  cases u with
  | false =>
    go_wp2_with fail
    go_ret
    exact ⟨rfl, Hb2.out⟩
  | true =>
  have hn12 : n ≤ 12 := by have := (tr_iff.1 Hu.out.symm).1; have := Hl.out; omega
  have Cg := Lib.hid (few_any B m d l w2 (HL.out.below Hb2.out))
  by_cases hR : FewR l
  case neg =>
    rw [tr_no hR] at Cg
    clear hR
    go_wp2_with fail
    refine Cg.out.mono ?_
    rintro e w3 ⟨rfl, e3⟩
    subst e3
    go_wp2_with fail
    go_ret
    exact ⟨rfl, Hb2.out⟩
  rw [if_pos (tr_yes hR)] at Cg
  have hm60 : m ≤ 60 := by have := hR.1; have := Hm.out; omega
  clear hR
  go_wp2_with fail
  refine Cg.out.mono ?_
  rintro e wo ⟨rfl, e3⟩
  subst e3
  obtain ⟨p0, p1, p2, p3, p4⟩ := Sx.five S2.out
  have So := Lib.hid S2.out
  have HSo := Lib.hid (HS.out.below Hb2.out)
  have HLo := Lib.hid (HL.out.below Hb2.out)
  have Cn := Lib.hid (ob_new most vals (Below.refl _ _) HSo.out (by omega))
  clear Cg S2
  go_wp2_with fail
  refine Cn.out.mono ?_
  rintro e w4 ⟨hB4, ⟨hM, rfl⟩ | ⟨hM, r, F, rfl, hO, -⟩⟩
  · clear p0 p1 p2 p3 p4 Cn
    have Hb4 := Lib.hid (Hb2.out.trans (hB4.mono Hb2.out.size))
    clear hB4 hM
    go_wp2_with fail
    go_ret
    exact ⟨rfl, Hb4.out⟩
  have HO := Lib.hid hO
  have HM := Lib.hid hM
  clear p0 p1 p2 p3 p4 Cn hB4 hO hM
  go_wp2_with fail
  go_loopw [14, 13] (fun i la wr => ∃ (k : Nat) (S : St) (F : Nat → Prop), i = .int .i64 k ∧ k ≤ m ∧ la = .int .i64 (lastO S) ∧ Hid (Ob wo wr r S F) ∧ Hid (S.s = s ∧ S.most = most ∧ S.vals = vals)) (fun i _ _ => m - (intOf i).toNat)
  case atStart => exact ⟨0, _, F, rfl, Nat.zero_le _, rfl, HO, Lib.hid ⟨rfl, rfl, rfl⟩⟩
  case round =>
    clear HO F
    obtain ⟨k, S, F, rfl, hk, rfl, hO, hQ⟩ := hrel
    by_cases hlt : k < m
    · obtain ⟨x, hx⟩ : ∃ x, x = l.getD k default := ⟨_, rfl⟩
      obtain ⟨b, o, hA, hbF, hbw, ⟨c0, c1⟩, hV, hwf, hrF⟩ := rec_at HLo.out hO.out (by rw [← Hm.out]; exact hlt) hx
      subst hA
      have hkI : (k : Int) < (m : Int) := by omega
      have Ca := Lib.hid (ob_append (w := wr.drew) x.off (hO.out.below (Below.refl _ _).drew) (hV.below (Below.refl _ _).drew) hrF)
      have hwb := bounds_i64 hwf
      obtain ⟨E, hE⟩ : ∃ E, E = er S x.row x.off := ⟨_, rfl⟩
      have HLa := Lib.hid (show lastO (app S x.row x.off) = if E = 0 then x.off else lastO S by rw [hE]; exact lastO_app _ _ _)
      have Hs := Lib.hid (app_s S x.row x.off)
      obtain ⟨S', hS'⟩ : ∃ S', S' = app S x.row x.off := ⟨_, rfl⟩
      obtain ⟨N, hN⟩ : ∃ N, N = num S x.row x.off := ⟨_, rfl⟩
      rw [← hE, ← hS', ← hN] at Ca
      rw [← hS'] at HLa Hs
      obtain ⟨La, hLa⟩ : ∃ La, La = lastO S := ⟨_, rfl⟩
      rw [← hLa] at HLa ⊢
      have z10 : wr.drew.cell? ⟨b, o + k * 2, none⟩ = some (.slice x.rA x.rn x.rc) ∧ wr.drew.cell? ⟨b, o + k * 2 + 1, none⟩ = some (.int .i64 x.off) := ⟨c0, c1⟩
      clear hV hE hS' hN hLa hx c0 c1 hwf hrF
      go_wp2_with fail
      go_region_held3 (fun w' => w'.cell? ⟨b, o + k * 2, none⟩ = some (.slice x.rA x.rn x.rc) ∧ w'.cell? ⟨b, o + k * 2 + 1, none⟩ = some (.int .i64 x.off)) (with_reducible first | exact z10) (first
        | (go_at_call 13; (with_reducible refine Ca.out.mono ?_); rintro e w5 ⟨rfl, mv5, F', hO5, -⟩; have z10 := And.intro (mv_cell mv5 z10.1 hbF) (mv_cell mv5 z10.2 hbF)))
      have HO5 := Lib.hid hO5
      obtain ⟨c0, c1⟩ := z10
      have hQ' : Hid (S'.s = s ∧ S'.most = most ∧ S'.vals = vals) := Lib.hid ⟨Hs.out.1.trans hQ.out.1, Hs.out.2.1.trans hQ.out.2.1, Hs.out.2.2.trans hQ.out.2.2⟩
      have Hlm := Lib.hid (ob_len HO5.out)
      have hfew : ¬ (most < (S'.rows.length : Int)) := by have := HO5.out.ok.few; rw [hQ'.out.2.1] at this; omega
      obtain ⟨M, hM⟩ : ∃ M : Int, M = (S'.rows.length : Int) := ⟨_, rfl⟩
      rw [← hM] at hfew Hlm
      have HM5 := Lib.hid hM
      obtain ⟨La', hLa'⟩ : ∃ La', La' = lastO S' := ⟨_, rfl⟩
      have HLa' := Lib.hid hLa'
      have HLl := Lib.hid (show La' = if E = 0 then x.off else La by rw [hLa', HLa.out])
      clear mv5 hO5 Ca HLa Hs hM hLa' hO hQ hbF
      by_cases hE0 : E = 0
      · have hE1 : (E == 0) = true := by rw [hE0]; rfl
        have HL2 := Lib.hid (show x.off = La' by rw [HLl.out, if_pos hE0])
        clear hE0 HLl
        go_wp2_with fail
        refine Hlm.out.mono ?_
        rintro e w6 ⟨rfl, e6⟩
        subst e6
        clear c0 c1
        go_wp2_with fail
        go_loopw [17] (fun q wq => ∃ q' : Nat, q = .int .i64 q' ∧ q' ≤ n ∧ Hid (Ob wo wq r S' F')) (fun q _ => n - (intOf q).toNat)
        case atStart => exact ⟨0, rfl, Nat.zero_le _, HO5⟩
        case round =>
          obtain ⟨q, rfl, hq, hOq⟩ := hrel
          obtain ⟨p0, -, -, -, -⟩ := Sx.five (So.out.below (Wd.Bx.lt So.out) hOq.out.bel)
          by_cases hqn : q < n
          · have hqI : (q : Int) < (n : Int) := by omega
            have hqs : q < S'.s.cols.length := by rw [hQ'.out.1, ← Hl.out]; exact hqn
            obtain ⟨V, hV⟩ : ∃ V : Int, V = ((ow (col S'.rows q)).length : Int) := ⟨_, rfl⟩
            have Cv := Lib.hid fun wx (h : Ob wo wx r S' F') => values_in h.mem h.ok q hqs
            rw [← hV] at Cv
            have hv1 : ¬ (vals < V) := by have := HO5.out.ok.own q hqs; rw [hQ'.out.2.2] at this; omega
            have hv2 : ¬ (M < V) := by have := ow_len (col S'.rows q); rw [col_len] at this; have := HM5.out; omega
            clear hV
            go_wp2_with fail
            refine (Cv.out _ hOq.out).mono ?_
            rintro e w7 ⟨rfl, hB7⟩
            have HO7 := Lib.hid (hOq.out.below hB7)
            clear hB7 hOq p0
            go_wp2_with fail
            refine (Cv.out _ HO7.out).mono ?_
            rintro e w8 ⟨rfl, hB8⟩
            have HO8 := Lib.hid (HO7.out.below hB8)
            clear hB8 HO7
            go_wp2_with fail
            have C8 := ob_len HO8.out
            rw [← HM5.out] at C8
            refine C8.mono ?_
            rintro e w9 ⟨rfl, e9⟩
            subst e9
            go_wp2_with fail
            go_roundw
            case rel => exact ⟨q + 1, by go_num, by omega, HO8⟩
            case measure => simp [intOf]; omega
          · have hqI : ¬ (q : Int) < (n : Int) := by omega
            clear HO5 Hlm
            go_wp2_with fail
            go_roundw
            case rel => exact ⟨k + 1, S', F', by go_num, by omega, by rw [← HLa'.out, ← HL2.out], hOq, hQ'⟩
            case measure => simp [intOf]; omega
      · have hE1 : (E == 0) = false := by simpa using hE0
        have HL2 := Lib.hid (show La = La' by rw [HLl.out, if_neg hE0])
        clear hE0 HLl
        go_wp2_with fail
        refine Hlm.out.mono ?_
        rintro e w6 ⟨rfl, e6⟩
        subst e6
        clear c0 c1
        go_wp2_with fail
        go_loopw [17] (fun q wq => ∃ q' : Nat, q = .int .i64 q' ∧ q' ≤ n ∧ Hid (Ob wo wq r S' F')) (fun q _ => n - (intOf q).toNat)
        case atStart => exact ⟨0, rfl, Nat.zero_le _, HO5⟩
        case round =>
          obtain ⟨q, rfl, hq, hOq⟩ := hrel
          obtain ⟨p0, -, -, -, -⟩ := Sx.five (So.out.below (Wd.Bx.lt So.out) hOq.out.bel)
          by_cases hqn : q < n
          · have hqI : (q : Int) < (n : Int) := by omega
            have hqs : q < S'.s.cols.length := by rw [hQ'.out.1, ← Hl.out]; exact hqn
            obtain ⟨V, hV⟩ : ∃ V : Int, V = ((ow (col S'.rows q)).length : Int) := ⟨_, rfl⟩
            have Cv := Lib.hid fun wx (h : Ob wo wx r S' F') => values_in h.mem h.ok q hqs
            rw [← hV] at Cv
            have hv1 : ¬ (vals < V) := by have := HO5.out.ok.own q hqs; rw [hQ'.out.2.2] at this; omega
            have hv2 : ¬ (M < V) := by have := ow_len (col S'.rows q); rw [col_len] at this; have := HM5.out; omega
            clear hV
            go_wp2_with fail
            refine (Cv.out _ hOq.out).mono ?_
            rintro e w7 ⟨rfl, hB7⟩
            have HO7 := Lib.hid (hOq.out.below hB7)
            clear hB7 hOq p0
            go_wp2_with fail
            refine (Cv.out _ HO7.out).mono ?_
            rintro e w8 ⟨rfl, hB8⟩
            have HO8 := Lib.hid (HO7.out.below hB8)
            clear hB8 HO7
            go_wp2_with fail
            have C8 := ob_len HO8.out
            rw [← HM5.out] at C8
            refine C8.mono ?_
            rintro e w9 ⟨rfl, e9⟩
            subst e9
            go_wp2_with fail
            go_roundw
            case rel => exact ⟨q + 1, by go_num, by omega, HO8⟩
            case measure => simp [intOf]; omega
          · have hqI : ¬ (q : Int) < (n : Int) := by omega
            clear HO5 Hlm
            go_wp2_with fail
            go_roundw
            case rel => exact ⟨k + 1, S', F', by go_num, by omega, by rw [← HLa'.out, ← HL2.out], hOq, hQ'⟩
            case measure => simp [intOf]; omega
    · have hkI : ¬ (k : Int) < (m : Int) := by omega
      have hbd := lastO_bd hO.out.ok
      obtain ⟨La, hLa⟩ : ∃ La, La = lastO S := ⟨_, rfl⟩
      rw [← hLa] at hbd ⊢
      have HLa := Lib.hid hLa
      have hl0 := hbd.1
      have hl1 := hbd.2.1
      clear hbd hLa
      by_cases h0 : S.rows = []
      · have Ca := Lib.hid (at_out hO.out.mem hO.out.ok 0 (by rw [h0]; simp))
        clear h0
        go_wp2_with fail
        refine Ca.out.mono ?_
        rintro e w5 ⟨rfl, hB5⟩
        have HO5 := Lib.hid (hO.out.below hB5)
        clear hB5 Ca hO
        go_wp2_with fail
        go_ret
        exact ⟨rfl, Hb2.out.trans (HO5.out.bel.mono Hb2.out.size)⟩
      · have hpos : 0 < S.rows.length := Nat.pos_of_ne_zero fun q => h0 (List.eq_nil_of_length_eq_zero q)
        have Ca := Lib.hid (at_in hO.out.mem hO.out.ok 0 hpos)
        obtain ⟨T, hT⟩ : ∃ T, T = S.rows.getD 0 [] := ⟨_, rfl⟩
        have hTm : T ∈ S.rows := by rw [hT, List.getD_eq_getElem?_getD, List.getElem?_eq_getElem hpos]; exact List.getElem_mem hpos
        obtain ⟨n', hn'⟩ : ∃ n', n' = S.s.cols.length := ⟨_, rfl⟩
        obtain ⟨z, hz⟩ : ∃ z, z = S.offs.getD 0 0 := ⟨_, rfl⟩
        rw [← hT, ← hn', ← hz] at Ca
        have HT := Lib.hid (And.intro hTm (show n' = T.length by rw [hn', row_len hO.out.ok hTm]))
        have HT1 := Lib.hid (show ∀ j, j < T.length → Wd.V1 (T.getD j default) from fun j hj => Sx.v1_of (fit_ok hO.out.ok hTm (by rw [row_len hO.out.ok hTm] at hj; exact hj)))
        have hn8 : n' ≤ 8 := by rw [hn']; exact (cols_len hO.out.ok).2
        obtain ⟨M, hM⟩ : ∃ M : Nat, M = S.rows.length := ⟨_, rfl⟩
        have HM1 := Lib.hid hM
        have hM4 : M ≤ 4096 := by have := hO.out.ok.few; have := hO.out.ok.m1; omega
        clear h0 hpos hT hTm hn' hz hM
        go_wp2_with fail
        refine Ca.out.mono ?_
        rintro e w5 ⟨gr, rfl, hR5, hg5, hB5⟩
        have HO5 := Lib.hid (hO.out.below hB5)
        have HV5 := Lib.hid (hR5.vs n' HT.out.2 (by unfold maxLen; omega) HT1.out)
        have HF5 := Lib.hid (show ¬ F gr from fun q => by have := hO.out.lt q; omega)
        have Cl5 := Lib.hid (ob_len HO5.out)
        rw [← HM1.out] at Cl5
        clear hR5 hg5 hB5 Ca hO HT1
        go_wp2_with fail
        refine Cl5.out.mono ?_
        rintro e w6 ⟨rfl, e6⟩
        subst e6
        clear Cl5
        by_cases hc1 : most ≤ (M : Int)
        · go_wp2_with fail
          go_ret
          exact ⟨rfl, Hb2.out.trans (HO5.out.bel.mono Hb2.out.size)⟩
        by_cases hc2 : 1099511627776 ≤ La
        · go_wp2_with fail
          go_ret
          exact ⟨rfl, Hb2.out.trans (HO5.out.bel.mono Hb2.out.size)⟩
        have he := er_again HO5.out.ok HT.out.1 (by rw [← HM1.out, hQ.out.2.1]; omega) (by rw [← HLa.out]; omega)
        rw [← HLa.out] at he
        have C6 := ob_append (La + 1) HO5.out HV5.out (not_some HF5.out)
        rw [show num S T (La + 1) = (M : Int) by unfold num; rw [if_pos he, HM1.out], he] at C6
        have hlen : (app S T (La + 1)).rows.length = M + 1 := by unfold app; rw [if_pos he]; simp [more, HM1.out]
        obtain ⟨S', hS'⟩ : ∃ S', S' = app S T (La + 1) := ⟨_, rfl⟩
        rw [← hS'] at C6 hlen
        have D6 := Lib.hid C6
        have Hlen := Lib.hid hlen
        clear C6 hlen hS' he HV5 HF5 HO5
        go_wp2_with fail
        refine D6.out.mono ?_
        rintro e w7 ⟨rfl, -, F', hO7, -⟩
        have HO7 := Lib.hid hO7
        have Cl7 := ob_len HO7.out
        rw [Hlen.out] at Cl7
        have Dl7 := Lib.hid Cl7
        clear hO7 Cl7 D6
        go_wp2_with fail
        refine Dl7.out.mono ?_
        rintro e w8 ⟨rfl, e8⟩
        subst e8
        go_wp2_with fail
        go_ret
        exact ⟨by simp, Hb2.out.trans (HO7.out.bel.mono Hb2.out.size)⟩
end Rw
namespace Lw
theorem rowsLimits_walk (A : Option Addr) (n c : Nat) (s : Sc.Sch) (most vals : Int) (B : Option Addr) (m d : Nat) (l : List Wd.Rcd) (w : World) (hS : Wd.Cs w A n c s.cols) (_ : Wd.Sch1 s) (_ : -9223372036854775808 ≤ most) (_ : most ≤ 9223372036854775807) (_ : -9223372036854775808 ≤ vals) (_ : vals ≤ 9223372036854775807) (hL : Wd.Rcs w B m d l) :
    Calls Try.prog 6 #[.agg #[.slice A n c, .int .i64 s.key, .int .i64 s.cmp, .int .i64 s.del, .int .i64 s.sort], .int .i64 most, .int .i64 vals, .slice B m d] w fun e w' => e = .returned (.bool true) ∧ Below w.heap.size w w' := Rw.rowsLimits_walk A n c s most vals B m d l w hS hL
end Lw
end Go.Proofs.Ytfeolclpgilfdaa
