/- The walk of RowsKeep: what was appended is there, row by row, and column by column, whatever is appended later. -/
import Derived.BigQuiet
import Derived.Deep.QuietTactic
import Derived.Test.YtfeolclpgilfdaaPk20
namespace Go.Proofs.Ytfeolclpgilfdaa
set_option maxRecDepth 20000
open Go.RowKit Go.Maps
namespace Rw
open Va (Vl May null)
open Sc (Sch FitS MayS fits fits_get tr tr_yes tr_no tr_iff tr_congr)
open Wd (Rcd)
set_option maxHeartbeats 16000000 in
theorem rowsKeep_walk (A : Option Addr) (n c : Nat) (s : Sch) (most vals : Int) (B : Option Addr) (m d : Nat) (l : List Rcd) (w : World) (hS : Wd.Cs w A n c s.cols) (hL : Wd.Rcs w B m d l) :
    Calls Try.prog 4 #[.agg #[.slice A n c, .int .i64 s.key, .int .i64 s.cmp, .int .i64 s.del, .int .i64 s.sort], .int .i64 most, .int .i64 vals, .slice B m d] w fun e w' => e = .returned (.bool true) ∧ Below w.heap.size w w' := by
  have hb0 := (Below.refl w.heap.size w).alloc (Nat.le_refl _) (.cells #[.slice A n c, .int .i64 s.key, .int .i64 s.cmp, .int .i64 s.del, .int .i64 s.sort] 24)
  have s0 : Sx.Sb (w.alloc (.cells #[.slice A n c, .int .i64 s.key, .int .i64 s.cmp, .int .i64 s.del, .int .i64 s.sort] 24)) w.heap.size A n c s.key s.cmp s.del s.sort := Wd.Bx.new w _ _
  have Hl := Lib.hid hS.len
  have Hm := Lib.hid hL.len
  have HS := Lib.hid hS
  have HL := Lib.hid hL
  have hcap := hS.cap
  have hcapl := hL.cap
  have Hb0 := Lib.hid hb0
  have S0 := Lib.hid s0
  clear hS hL hb0 s0
  go_enter Try.func4, Try.ntmps4
  go_wp2_with fail
  generalize w.alloc (.cells #[.slice A n c, .int .i64 s.key, .int .i64 s.cmp, .int .i64 s.del, .int .i64 s.sort] 24) = wa at *
  refine (awake_any wa).mono ?_
  rintro e w1 ⟨rfl, hB1⟩
  have hb1 := Hb0.out.trans (hB1.mono Hb0.out.size)
  have S1 := Lib.hid (S0.out.below (Wd.Bx.lt S0.out) hB1)
  obtain ⟨p0, p1, p2, p3, p4⟩ := Sx.five S1.out
  have Hb1 := Lib.hid hb1
  clear hB1 hb1 S0 Hb0
  go_wp2_with fail
  have Cf := Lib.hid (Sx.Few_any A n c s w1 (HS.out.below Hb1.out))
  obtain ⟨u, hu⟩ : ∃ u, u = tr (Sx.FewS s) := ⟨_, rfl⟩
  rw [← hu] at Cf
  have Hu := Lib.hid hu
  clear hu
  refine Cf.out.mono ?_
  rintro e w2 ⟨rfl, hB2⟩
  have Hb2 := Lib.hid (Hb1.out.trans (hB2.mono Hb1.out.size))
  have S2 := Lib.hid (S1.out.below (Wd.Bx.lt S1.out) hB2)
  clear p0 p1 p2 p3 p4 hB2 Cf S1 Hb1
  cases u with
  | false =>
    go_wp2_with fail
    go_ret
    exact ⟨rfl, Hb2.out⟩
  | true =>
  have hn12 : n ≤ 12 := by have := (tr_iff.1 Hu.out.symm).1; have := Hl.out; omega
  have Cg := Lib.hid (few_any B m d l w2 (HL.out.below Hb2.out))
  by_cases hR : FewR l
  case neg =>
    rw [tr_no hR] at Cg
    clear hR
    go_wp2_with fail
    refine Cg.out.mono ?_
    rintro e w3 ⟨rfl, e3⟩
    subst e3
    go_wp2_with fail
    go_ret
    exact ⟨rfl, Hb2.out⟩
  rw [if_pos (tr_yes hR)] at Cg
  have hm60 : m ≤ 60 := by have := hR.1; have := Hm.out; omega
  clear hR
  go_wp2_with fail
  refine Cg.out.mono ?_
  rintro e wo ⟨rfl, e3⟩
  subst e3
  obtain ⟨p0, p1, p2, p3, p4⟩ := Sx.five S2.out
  have So := Lib.hid S2.out
  have HSo := Lib.hid (HS.out.below Hb2.out)
  have HLo := Lib.hid (HL.out.below Hb2.out)
  have Cn := Lib.hid (ob_new most vals (Below.refl _ _) HSo.out (by omega))
  clear Cg S2
  go_wp2_with fail
  refine Cn.out.mono ?_
  rintro e w4 ⟨hB4, ⟨hM, rfl⟩ | ⟨hM, r, F, rfl, hO, -⟩⟩
  · clear p0 p1 p2 p3 p4 Cn
    have Hb4 := Lib.hid (Hb2.out.trans (hB4.mono Hb2.out.size))
    clear hB4 hM
    go_wp2_with fail
    go_ret
    exact ⟨rfl, Hb4.out⟩
  have HO : Hid (Kp wo w4 r ⟨s, most, vals, [], []⟩ F (.slice none 0 0) []) := Lib.hid ⟨hO, World.ownsRow_nil _ _ _ _, fun g q => by simp [Value.ownBlock] at q, rfl, rfl⟩
  have HM := Lib.hid hM
  clear p0 p1 p2 p3 p4 Cn hB4 hO hM
  go_wp2_with fail
  go_loopw [14, 13] (fun i wv wr => ∃ (k : Nat) (S : St) (F : Nat → Prop) (W : List Rcd), i = .int .i64 k ∧ k ≤ m ∧ Hid (Kp wo wr r S F wv W) ∧ Hid (S.s = s ∧ S.most = most ∧ W.length ≤ k ∧ ∀ o ∈ W, o ∈ l)) (fun i _ _ => m - (intOf i).toNat)
  case atStart => exact ⟨0, _, F, [], rfl, Nat.zero_le _, HO, Lib.hid ⟨rfl, rfl, Nat.zero_le _, fun o h => by simp at h⟩⟩
  case round =>
    clear HO F
    obtain ⟨k, S, F, W, rfl, hk, hK, hQ⟩ := hrel
    obtain ⟨Aw, cw, rfl⟩ := Dt.own_shape hK.out.own
    obtain ⟨nW, hnW⟩ : ∃ nW, nW = W.length := ⟨_, rfl⟩
    rw [← hnW] at hK ⊢
    have HnW := Lib.hid hnW
    have hnW60 : nW ≤ 60 := by have := hQ.out.2.2.1; omega
    clear hnW
    by_cases hlt : k < m
    · obtain ⟨x, hx⟩ : ∃ x, x = l.getD k default := ⟨_, rfl⟩
      have hxl : x ∈ l := by rw [hx, List.getD_eq_getElem?_getD, List.getElem?_eq_getElem (by rw [← Hm.out]; exact hlt)]; exact List.getElem_mem _
      obtain ⟨b, o, hA, hbF, hbw, ⟨c0, c1⟩, hV, hwf, hrF⟩ := rec_at HLo.out hK.out.ob (by rw [← Hm.out]; exact hlt) hx
      subst hA
      have hkI : (k : Int) < (m : Int) := by omega
      have Ca := Lib.hid (ob_append (w := wr.drew) x.off (hK.out.ob.below (Below.refl _ _).drew) (hV.below (Below.refl _ _).drew) hrF)
      have hwb := bounds_i64 hwf
      obtain ⟨E, hE⟩ : ∃ E, E = er S x.row x.off := ⟨_, rfl⟩
      obtain ⟨N, hN⟩ : ∃ N, N = num S x.row x.off := ⟨_, rfl⟩
      have HNn := Lib.hid (show N = if E = 0 then (nW : Int) else 0 by rw [hN, hE, HnW.out]; unfold num; rw [hK.out.rows, List.length_map])
      have HAp := Lib.hid (show app S x.row x.off = if E = 0 then more S x.row x.off else S by rw [hE]; rfl)
      have Hs := Lib.hid (app_s S x.row x.off)
      rw [← hE, ← hN] at Ca
      have z10 : wr.drew.cell? ⟨b, o + k * 2, none⟩ = some (.slice x.rA x.rn x.rc) ∧ wr.drew.cell? ⟨b, o + k * 2 + 1, none⟩ = some (.int .i64 x.off) := ⟨c0, c1⟩
      have Hxl := Lib.hid hxl
      clear hV hE hN hx c0 c1 hwf hrF hxl
      go_wp2_with fail
      go_region_held3 (fun w' => w'.cell? ⟨b, o + k * 2, none⟩ = some (.slice x.rA x.rn x.rc) ∧ w'.cell? ⟨b, o + k * 2 + 1, none⟩ = some (.int .i64 x.off)) (with_reducible first | exact z10) (first
        | (go_at_call 13; (with_reducible refine Ca.out.mono ?_); rintro e w5 ⟨rfl, mv5, F', hO5, hF5⟩; have z10 := And.intro (mv_cell mv5 z10.1 hbF) (mv_cell mv5 z10.2 hbF)))
      obtain ⟨c0, c1⟩ := z10
      have hkd : Kp wo wr.drew r S F (.slice Aw nW cw) W := hK.out.below (Below.refl _ _).drew
      obtain ⟨hown5, hap5⟩ := hkd.turn mv5 hF5 hO5
      have HO5 := Lib.hid hO5
      have HK5 := Lib.hid (And.intro hown5 hap5)
      have Hr5 := Lib.hid (And.intro hkd.rows hkd.offs)
      clear mv5 hO5 hF5 hkd hown5 hap5 Ca hK
      by_cases hE0 : E = 0
      · have hE1 : (E == 0) = true := by rw [hE0]; rfl
        have hN2 : N = (nW : Int) := by rw [HNn.out, if_pos hE0]
        have HA2 := Lib.hid (show app S x.row x.off = more S x.row x.off by rw [HAp.out, if_pos hE0])
        subst hN2
        clear hE0 HAp HNn
        have hown6 : (w5.alloc (.cells #[.slice x.rA x.rn x.rc, .int .i64 x.off] 40)).ownsRow wo.heap.size 40 2 (.slice Aw nW cw) W.length (Wd.flatR W) := HK5.out.1.alloc _
        have hcv := Wd.recs_new w5 x _ rfl
        have hA5 := HO5.out.below ((Below.refl w5.heap.size w5).alloc (Nat.le_refl _) (.cells #[.slice x.rA x.rn x.rc, .int .i64 x.off] 40))
        have hz5 := hA5.bel.size
        have hdk : W.length ≤ 1000000 := by rw [← HnW.out]; omega
        have Pk := Lib.hid (And.intro hown6 hA5)
        clear hA5
        go_wp2_with (at_builtin; refine Wd.wpList_appR1 _ rfl (.tmp 81) (.tmp 86) rfl wo.heap.size _ W rfl hown6 _ x rfl hcv hdk hz5 ?_; intro v6 w6 hO6 hg6 hl6)
        obtain ⟨A6, c6, rfl⟩ := Dt.own_shape hO6
        have hob6 : Ob wo w6 r (more S x.row x.off) F' := by
          have := Pk.out.2.grown (v := .slice Aw nW cw) hg6 HK5.out.2 (fun g q => (Wd.own_lt HK5.out.1 q).2.1)
          rw [HA2.out] at this
          exact this
        have hap6 : ∀ g, (Value.slice A6 (W ++ [x]).length c6).ownBlock = some g → ¬ F' g := fun g q z => by
          rcases hl6 with e | e
          · exact HK5.out.2 g (e.symm.trans q) z
          · rw [q] at e
            have h5 := Option.some.inj e
            have h6 := HO5.out.lt z
            simp at h5
            omega
        obtain ⟨M, hM⟩ : ∃ M, M = (W ++ [x]).length := ⟨_, rfl⟩
        rw [← hM] at hO6 hap6 ⊢
        have HK6 : Hid (Kp wo w6 r (more S x.row x.off) F' (.slice A6 M c6) (W ++ [x])) := Lib.hid ⟨hob6, by rw [← hM]; exact hO6, hap6, by simp [more, Hr5.out.1], by simp [more, Hr5.out.2]⟩
        have Cl := Lib.hid (ob_len HK6.out.ob)
        rw [show ((more S x.row x.off).rows.length : Int) = (M : Int) by rw [HK6.out.rows, List.length_map, hM]] at Cl
        have hM60 : M ≤ 61 := by rw [hM, List.length_append, ← HnW.out]; simp; omega
        have hQ6 : Hid ((more S x.row x.off).s = s ∧ (more S x.row x.off).most = most ∧ (W ++ [x]).length ≤ k + 1 ∧ ∀ o ∈ W ++ [x], o ∈ l) := Lib.hid ⟨hQ.out.1, hQ.out.2.1, by rw [List.length_append]; have := hQ.out.2.2.1; simp; omega, fun o ho => by
          rcases List.mem_append.1 ho with q | q
          · exact hQ.out.2.2.2 o q
          · rw [List.mem_singleton.1 q]; exact Hxl.out⟩
        clear hO6 hg6 hl6 hob6 hap6 hown6 hcv hz5 hdk Pk HA2 hM
        refine Cl.out.mono ?_
        rintro e w7 ⟨rfl, e7⟩
        subst e7
        clear Cl c0 c1 HK5 HO5
        go_wp2_with fail
        go_roundw
        case rel => exact ⟨k + 1, _, F', W ++ [x], by go_num, by omega, HK6, hQ6⟩
        case measure => simp [intOf]; omega
      · have hE1 : (E == 0) = false := by simpa using hE0
        have HA2 := Lib.hid (show app S x.row x.off = S by rw [HAp.out, if_neg hE0])
        have HK6 : Hid (Kp wo w5 r S F' (.slice Aw nW cw) W) := Lib.hid ⟨by have := HO5.out; rw [HA2.out] at this; exact this, HK5.out.1, HK5.out.2, Hr5.out.1, Hr5.out.2⟩
        have Cl := Lib.hid (ob_len HK6.out.ob)
        rw [show (S.rows.length : Int) = (nW : Int) by rw [HK6.out.rows, List.length_map, HnW.out]] at Cl
        have hQ6 : Hid (S.s = s ∧ S.most = most ∧ W.length ≤ k + 1 ∧ ∀ o ∈ W, o ∈ l) := Lib.hid ⟨hQ.out.1, hQ.out.2.1, by have := hQ.out.2.2.1; omega, hQ.out.2.2.2⟩
        clear hE0 HNn HAp HA2 HK5 HO5
        go_wp2_with fail
        refine Cl.out.mono ?_
        rintro e w7 ⟨rfl, e7⟩
        subst e7
        clear Cl c0 c1
        go_wp2_with fail
        go_roundw
        case rel => exact ⟨k + 1, S, F', W, by go_num, by omega, HK6, hQ6⟩
        case measure => simp [intOf]; omega
    · have hkI : ¬ (k : Int) < (m : Int) := by omega
      obtain ⟨we, rfl⟩ : ∃ we : World, we = wr := ⟨_, rfl⟩
      have hrc : ∀ o ∈ W, Wd.Rc1 we o := fun o ho => by
        obtain ⟨j, hj, rfl⟩ := List.getElem_of_mem (hQ.out.2.2.2 o ho)
        obtain ⟨_, _, _, _, _, h1⟩ := HLo.out.at_ j hj
        rw [List.getD_eq_getElem?_getD, List.getElem?_eq_getElem hj] at h1
        exact h1.below hK.out.ob.bel
      obtain ⟨A', n', c', he, hRc⟩ := Wd.Rcs.of_own hK.out.own hrc
      cases he
      have HRc := Lib.hid hRc
      have hcapw := hRc.cap
      have hfin : (nW : Int) ≤ most := by have := hK.out.ob.ok.few; rw [hQ.out.2.1, hK.out.rows, List.length_map, ← HnW.out] at this; exact this
      clear hrc hRc hlt
      go_wp2_with fail
      go_loopw [17] (fun i wq => ∃ p : Nat, i = .int .i64 p ∧ p ≤ nW ∧ Below we.heap.size we wq) (fun i _ => nW - (intOf i).toNat)
      case atStart => exact ⟨0, rfl, Nat.zero_le _, Below.refl _ _⟩
      case round =>
        clear hkI hk
        obtain ⟨p, rfl, hp, hB⟩ := hrel
        have HB := Lib.hid hB
        by_cases hpW : p < nW
        case neg =>
          have hpI : ¬ (p : Int) < (nW : Int) := by omega
          have hb := (hK.out.ob.below hB).bel
          have Hb := Lib.hid hb
          clear hB hb
          go_wp2_with fail
          go_ret
          exact ⟨by simp, Hb2.out.trans (Hb.out.mono Hb2.out.size)⟩
        have hpI : (p : Int) < (nW : Int) := by omega
        have hpL : p < W.length := by rw [← HnW.out]; exact hpW
        obtain ⟨y, hy⟩ : ∃ y, y = W.getD p default := ⟨_, rfl⟩
        obtain ⟨bw, ow_, hAw, hbwlt, d0, d1, h1⟩ := HRc.out.cells hpL hy
        subst hAw
        have Hd := Lib.hid (And.intro d0 (And.intro d1 (And.intro hbwlt h1)))
        have hps : p < S.rows.length := by rw [hK.out.rows, List.length_map]; exact hpL
        obtain ⟨T, hT⟩ : ∃ T, T = S.rows.getD p [] := ⟨_, rfl⟩
        have hTy : T = y.row := by rw [hT, hy, hK.out.rows]; exact (map_getD hpL).1
        have hzy : S.offs.getD p 0 = y.off := by rw [hy, hK.out.offs]; exact (map_getD hpL).2
        have hTm : T ∈ S.rows := by rw [hT, List.getD_eq_getElem?_getD, List.getElem?_eq_getElem hps]; exact List.getElem_mem hps
        obtain ⟨n', hn'⟩ : ∃ n', n' = S.s.cols.length := ⟨_, rfl⟩
        have Ca := Lib.hid (at_in (hK.out.ob.below hB).mem hK.out.ob.ok p hps)
        rw [← hT, ← hn', hzy] at Ca
        have HT := Lib.hid (show T = y.row ∧ n' = T.length from ⟨hTy, by rw [hn', row_len hK.out.ob.ok hTm]⟩)
        have HTp := Lib.hid hT
        have Hn' := Lib.hid hn'
        have HT1 := Lib.hid (show ∀ j, j < T.length → Wd.V1 (T.getD j default) from fun j hj => Sx.v1_of (fit_ok hK.out.ob.ok hTm (by rw [row_len hK.out.ob.ok hTm] at hj; exact hj)))
        have hn8 : n' ≤ 8 := by rw [hn']; exact (cols_len hK.out.ob.ok).2
        have hwb := bounds_i64 h1.w0
        clear hT hTy hzy hTm hn' hy d0 d1 hbwlt h1 hB
        go_wp2_with fail
        refine Ca.out.mono ?_
        rintro e w8 ⟨gr, rfl, hR8, hg8, hB8⟩
        have HB8 := Lib.hid (HB.out.trans (hB8.mono HB.out.size))
        have HR8 := Lib.hid hR8
        have d0 : w8.cell? ⟨bw, ow_ + p * 2, none⟩ = some (.slice y.rA y.rn y.rc) := (HB8.out.cell (p := ⟨bw, ow_ + p * 2, none⟩) Hd.out.2.2.1).trans Hd.out.1
        have d1 : w8.cell? ⟨bw, ow_ + p * 2 + 1, none⟩ = some (.int .i64 y.off) := (HB8.out.cell (p := ⟨bw, ow_ + p * 2 + 1, none⟩) Hd.out.2.2.1).trans Hd.out.2.1
        clear hR8 hg8 hB8 Ca HB
        go_wp2_with fail
        have Cs := Sx.sameV_any _ _ _ _ _ _ _ _ w8 (HR8.out.vs n' HT.out.2 (by unfold maxLen; omega) HT1.out) (Hd.out.2.2.2.b.below HB8.out)
        rw [tr_yes HT.out.1] at Cs
        refine Cs.mono ?_
        rintro e w9 ⟨rfl, hB9⟩
        have HB9 := Lib.hid (HB8.out.trans (hB9.mono HB8.out.size))
        have HR9 := Lib.hid (Wd.RowV.below HR8.out HR8.out.lt hB9)
        clear d0 d1 hB9 HB8 HR8
        have d0 : w9.cell? ⟨bw, ow_ + p * 2, none⟩ = some (.slice y.rA y.rn y.rc) := (HB9.out.cell (p := ⟨bw, ow_ + p * 2, none⟩) Hd.out.2.2.1).trans Hd.out.1
        have d1 : w9.cell? ⟨bw, ow_ + p * 2 + 1, none⟩ = some (.int .i64 y.off) := (HB9.out.cell (p := ⟨bw, ow_ + p * 2 + 1, none⟩) Hd.out.2.2.1).trans Hd.out.2.1
        go_wp2_with fail
        go_loopw [22] (fun i wq => ∃ q : Nat, i = .int .i64 q ∧ q ≤ n' ∧ Below w9.heap.size w9 wq) (fun i _ => n' - (intOf i).toNat)
        case atStart => exact ⟨0, rfl, Nat.zero_le _, Below.refl _ _⟩
        case round =>
          clear d0 d1
          obtain ⟨q, rfl, hq, hB⟩ := hrel
          have HBq := Lib.hid (HB9.out.trans (hB.mono HB9.out.size))
          have HBr := Lib.hid hB
          clear hB
          by_cases hqn : q < n'
          case neg =>
            have hqI : ¬ (q : Int) < (n' : Int) := by omega
            go_wp2_with fail
            go_roundw
            case rel => exact ⟨p + 1, by go_num, by omega, HBq.out⟩
            case measure => simp [intOf]; omega
          have hqI : (q : Int) < (n' : Int) := by omega
          have hqs : q < S.s.cols.length := by rw [← Hn'.out]; exact hqn
          have Cc := Lib.hid (column_in (hK.out.ob.below HBq.out).mem hK.out.ob.ok q hqs)
          obtain ⟨C, hC⟩ : ∃ C, C = col S.rows q := ⟨_, rfl⟩
          have hrl : S.rows.length = nW := by rw [hK.out.rows, List.length_map, HnW.out]
          rw [← hC, hrl] at Cc
          have HC := Lib.hid (show p < C.length ∧ T.getD q default = C.getD p default ∧ q < T.length from ⟨by rw [hC, col_len]; exact hps, by rw [hC, col_get hps, ← HTp.out], by rw [← HT.out.2]; exact hqn⟩)
          clear hC hrl
          go_wp2_with fail
          refine Cc.out.mono ?_
          rintro e w10 ⟨gc, rfl, hR10, hg10, hB10⟩
          have HB10 := Lib.hid (HBr.out.trans (hB10.mono HBr.out.size))
          obtain ⟨x, hx⟩ : ∃ x, x = T.getD q default := ⟨_, rfl⟩
          obtain ⟨x0, x1, x2, x3⟩ := rowv_cells (Wd.RowV.below HR9.out HR9.out.lt HB10.out) HC.out.2.2 hx
          obtain ⟨y0, y1, y2, y3⟩ := rowv_cells hR10 HC.out.1 (hx.trans HC.out.2.1)
          have hgt : Try.prog.eqGuardType Try.prog.depth 49 = false := by kernel_rfl
          have heq := fun w => Vc.eqV x.kind x.i x.s x.b x.kind x.i x.s x.b w
          rw [decide_eq_true (by simp)] at heq
          clear hR10 hg10 hB10 Cc hx HBq HBr
          go_wp2_with fail
          go_quiet (fail)
          go_wp2_with fail
          go_roundw
          case rel => exact ⟨q + 1, by go_num, by omega, Wd.below_drewN HB10.out _⟩
          case measure => simp [intOf]; omega
end Rw
namespace Lw
theorem rowsKeep_walk (A : Option Addr) (n c : Nat) (s : Sc.Sch) (most vals : Int) (B : Option Addr) (m d : Nat) (l : List Wd.Rcd) (w : World) (hS : Wd.Cs w A n c s.cols) (_ : Wd.Sch1 s) (_ : -9223372036854775808 ≤ most) (_ : most ≤ 9223372036854775807) (_ : -9223372036854775808 ≤ vals) (_ : vals ≤ 9223372036854775807) (hL : Wd.Rcs w B m d l) :
    Calls Try.prog 4 #[.agg #[.slice A n c, .int .i64 s.key, .int .i64 s.cmp, .int .i64 s.del, .int .i64 s.sort], .int .i64 most, .int .i64 vals, .slice B m d] w fun e w' => e = .returned (.bool true) ∧ Below w.heap.size w w' := Rw.rowsKeep_walk A n c s most vals B m d l w hS hL
end Lw
end Go.Proofs.Ytfeolclpgilfdaa
