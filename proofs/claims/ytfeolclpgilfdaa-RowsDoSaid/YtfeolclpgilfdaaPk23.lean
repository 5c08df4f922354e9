/- The reference's rows: Append. -/
import Derived.Test.YtfeolclpgilfdaaPk22
import Derived.Test.YtfeolclpgilfdaaPk06
namespace Go.Proofs.Ytfeolclpgilfdaa
set_option maxRecDepth 20000
open Go.RowKit Go.Maps
namespace Rf
open Va (Vl May null)
open Sc (Sch FitS MayS fits fits_get tr tr_yes tr_no tr_iff tr_congr)
open Rw
set_option maxHeartbeats 8000000 in
theorem append_any {wo w : World} {q : Nat} {A : Option Addr} {n c : Nat} {lv ov : Value} {us : List Value} {S : St} {B : Option Addr} {m d : Nat} {row : List Vl} (off : Int) (h : RL wo w q A n c lv ov us S) (ok : Ok S) (hV : Wd.Vs w B m d row) :
    Calls Try.prog 14 #[pt q, .slice B m d, .int .i64 off] w fun e w' => e = .returned (.tuple #[.int .i64 (num S row off), .int .i64 (er S row off)]) ∧ ∃ lv' ov' us', RL wo w' q A n c lv' ov' us' (app S row off) ∧ Wd.Mv (Ft2 q lv ov us) w w' ∧ ∀ x, Ft2 q lv' ov' us' x → Wd.Gr (Ft2 q lv ov us) w w' x := by
  have H := Lib.hid h
  have Hok := Lib.hid ok
  have HV := Lib.hid hV
  have hn8 : n ≤ 8 := by rw [h.sch.len]; exact (cols_len ok).2
  obtain ⟨N, hN⟩ : ∃ N, N = S.rows.length := ⟨_, rfl⟩
  have HN := Lib.hid hN
  have hN4 : N ≤ 4096 := by rw [hN]; have := ok.few; have := ok.m1; omega
  obtain ⟨Al, cl, hlv⟩ : ∃ Al cl, lv = .slice Al N cl := by rw [hN]; exact Dt.own_shape h.rl
  subst hlv
  obtain ⟨Ao, no, co, hov, hSo⟩ := Wd.Sl.of_own h.off
  obtain rfl : no = N := by rw [hSo.len, ok.len, hN]
  have Hov := Lib.hid (And.intro hov hSo)
  obtain ⟨E, hE⟩ : ∃ E, E = er S row off := ⟨_, rfl⟩
  rw [← hE]
  have HE := Lib.hid hE
  have HNn := Lib.hid (show num S row off = if E = 0 then (no : Int) else 0 by rw [hE, hN]; rfl)
  have HA := Lib.hid (show app S row off = if E = 0 then more S row off else S by rw [hE]; rfl)
  have bad : ∀ w', Below w.heap.size w w' → E ≠ 0 → (∃ lv' ov' us', RL wo w' q A n c lv' ov' us' (app S row off) ∧ Wd.Mv (Ft2 q (.slice Al no cl) ov us) w w' ∧ ∀ x, Ft2 q lv' ov' us' x → Wd.Gr (Ft2 q (.slice Al no cl) ov us) w w' x) := fun w' hb he => by
    rw [HA.out, if_neg he]
    exact ⟨_, _, _, H.out.below hb, Wd.Mv.of_below hb, fun x hx => .inl hx⟩
  have Bad := Lib.hid bad
  have Cf := Lib.hid (Sx.refFits_any A n c S.s B m d row w (h.sch.below h.bel) hV (by omega))
  obtain ⟨c0, c1, c2, c3, c4, c5, c6, c7, c8⟩ := h.cs
  rw [hov] at c8
  have hmr := hV.len
  have hcapm := hV.cap
  have Hmr := Lib.hid hmr
  clear hE bad hN hov hSo h ok hV hmr
  have hmost := Hok.out.m1
  obtain ⟨u, hu⟩ : ∃ u, u = tr (FitS S.s row) := ⟨_, rfl⟩
  rw [← hu] at Cf
  have Hu := Lib.hid hu
  clear hu
  go_enter Try.func14, Try.ntmps14
  go_wp2_with fail
  refine Cf.out.mono ?_
  rintro e w1 ⟨rfl, hB1⟩
  have HB1 := Lib.hid hB1
  obtain ⟨-, -, -, -, -, d5, d6, d7, d8⟩ := (H.out.below hB1).cs
  rw [Hov.out.1] at d8
  clear c0 c1 c2 c3 c4 c5 c6 c7 c8 hB1 Cf
  have arg : ¬ Arg S row off → E = 1 := fun q => HE.out.trans (er_arg q)
  have Arg1 := Lib.hid arg
  clear arg
  cases u with
  | false =>
    have e1 := Lib.hid (Arg1.out fun q => by have := Hu.out; rw [tr_yes q.1] at this; cases this)
    go_wp2_with fail
    go_ret2
    exact ⟨by rw [HNn.out, e1.out]; rfl, Bad.out _ HB1.out (by rw [e1.out]; decide)⟩
  | true =>
  have hF := tr_iff.1 Hu.out.symm
  have HF := Lib.hid hF
  clear hF
  by_cases h1 : off < 0
  · have e1 := Lib.hid (Arg1.out fun q => by have := q.2; omega)
    go_wp2_with fail
    go_ret2
    exact ⟨by rw [HNn.out, e1.out]; rfl, Bad.out _ HB1.out (by rw [e1.out]; decide)⟩
  by_cases h2 : 1099511627776 < off
  · have e1 := Lib.hid (Arg1.out fun q => by have := q.2; omega)
    go_wp2_with fail
    go_ret2
    exact ⟨by rw [HNn.out, e1.out]; rfl, Bad.out _ HB1.out (by rw [e1.out]; decide)⟩
  have Har := Lib.hid (show Arg S row off from ⟨HF.out, by omega, by omega⟩)
  obtain ⟨most0, hm0⟩ : ∃ x, x = S.most := ⟨_, rfl⟩
  obtain ⟨vals0, hv0⟩ : ∃ x, x = S.vals := ⟨_, rfl⟩
  rw [← hm0] at d5
  have Hm0 := Lib.hid hm0
  have Hv0 := Lib.hid hv0
  clear hm0 hv0 d6 Arg1 hmost
  by_cases h0 : no = 0
  · skip
    have Hnl := Lib.hid (show ¬ Late S off from fun q => q.1 (List.eq_nil_of_length_eq_zero (by rw [Hok.out.len, ← HN.out, h0])))
    have hno : ¬ (0 < no) := by omega
    have hnoI : ¬ ((0 : Int) < (no : Int)) := by omega
    clear h0
    have hfull : (¬ most0 ≤ (no : Int)) → Full S row → ¬ Room S row := fun q z => z.elim (fun y => absurd (by rw [Hm0.out, HN.out]; exact y) q) id
    have Hfull := Lib.hid hfull
    clear hfull
    by_cases h3 : most0 ≤ (no : Int)
    · have e1 := Lib.hid (HE.out.trans (er_full Har.out Hnl.out (.inl (by rw [← HN.out, ← Hm0.out]; exact h3))))
      go_wp2_with fail
      go_ret2
      exact ⟨by rw [HNn.out, e1.out]; rfl, Bad.out _ HB1.out (by rw [e1.out]; decide)⟩
    go_wp2_with fail
    go_loopw [10] (fun i wr => ∃ p : Nat, i = .int .i64 p ∧ p ≤ m ∧ Hid (∀ j, j < p → Room1 S row j) ∧ Below w.heap.size w wr) (fun i _ => m - (intOf i).toNat)
    case atStart => exact ⟨0, rfl, Nat.zero_le _, Lib.hid (fun j hj => by omega), HB1.out⟩
    case round =>
      clear d5 d7 d8
      obtain ⟨p, rfl, hp, hrm, hB⟩ := hrel
      have HB := Lib.hid hB
      have hmc : m = S.s.cols.length := by rw [Hmr.out, Sc.fits_len HF.out.2]
      have hm8 : m ≤ 8 := by rw [hmc]; exact (cols_len Hok.out).2
      by_cases hpm : p < m
      · have hpI : (p : Int) < (m : Int) := by omega
        have hpr : p < row.length := by rw [← Hmr.out]; exact hpm
        have hps : p < S.s.cols.length := by omega
        obtain ⟨y, hy⟩ : ∃ y, y = row.getD p default := ⟨_, rfl⟩
        have Co := Lib.hid (own_any (H.out.below hB) Hok.out p hps)
        obtain ⟨L, hL⟩ : ∃ L, L = ow (col S.rows p) := ⟨_, rfl⟩
        rw [← hL] at Co
        have HLv := Lib.hid (show ∀ j, j < L.length → Wd.V1 (L.getD j default) from v1_mem fun x hx => Sx.v1_of (ow_ok Hok.out hps x (by rw [← hL]; exact hx)))
        have HR1 := Lib.hid (show Room1 S row p ↔ y ∈ L ∨ (L.length : Int) < vals0 by rw [hy, hL, Hv0.out]; rfl)
        have Hy := Lib.hid hy
        have hL4 : L.length ≤ 4096 := by have := Hok.out.own p hps; rw [← hL] at this; have := Hok.out.v1; omega
        clear hL hy hmc hB
        go_wp2_with fail
        refine Co.out.mono ?_
        rintro e w3 ⟨v, rfl, hown, hB3⟩
        obtain ⟨A2, n2, c2, rfl, hV2⟩ := Wd.Vs.of_own hown HLv.out
        have HV2 := Lib.hid hV2
        have HB3 := Lib.hid (HB.out.trans (hB3.mono HB.out.size))
        obtain ⟨b, o, hBe, hb, e0, e1, e2, e3, -⟩ := (HV.out.below HB3.out).cells (j := p) hpr Hy.out
        subst hBe
        have hn2 := hV2.len
        have Hn2 := Lib.hid hn2
        have hn24 : n2 ≤ 4096 := by omega
        have Cf := Lib.hid (Dx.refFind_any A2 n2 c2 L y.kind y.i y.s y.b w3 hV2)
        obtain ⟨f, hf⟩ : ∃ f, f = Dc.fnd L y := ⟨_, rfl⟩
        have Cf : Hid (Calls Try.prog 37 #[.slice A2 n2 c2, .agg #[.int .i64 y.kind, .int .i64 y.i, .string y.s, .bool y.b]] w3 fun e w' => e = .returned (.int .i64 f) ∧ Below w3.heap.size w3 w') := Lib.hid (by rw [hf]; exact Cf.out)
        have Hf := Lib.hid (show f < 0 ↔ y ∉ L from ⟨fun z q => by have := Dc.fnd_pos.2 q; omega, fun z => by rw [hf, Dc.fnd_none z]; omega⟩)
        clear hown hV2 hB3 hn2 hf Co
        go_wp2_with fail
        refine Cf.out.mono ?_
        rintro e w4 ⟨rfl, hB4⟩
        have HB4 := Lib.hid (HB3.out.trans (hB4.mono HB3.out.size))
        obtain ⟨-, -, -, -, -, -, d6, -, -⟩ := (H.out.below HB4.out).cs
        rw [← Hv0.out] at d6
        clear hB4 e0 e1 e2 e3 Cf
        by_cases hf0 : f < 0
        · by_cases hv : vals0 ≤ (n2 : Int)
          · have e1 := Lib.hid (HE.out.trans (er_full Har.out Hnl.out (.inr fun q => by
              rcases HR1.out.1 (q p hps) with z | z
              · exact Hf.out.1 hf0 z
              · have := Hn2.out
                omega)))
            go_wp2_with fail
            go_ret2
            exact ⟨by rw [HNn.out, e1.out]; rfl, Bad.out _ HB4.out (by rw [e1.out]; decide)⟩
          · have hr2 := Lib.hid (show Room1 S row p from HR1.out.2 (.inr (by have := Hn2.out; omega)))
            go_wp2_with fail
            go_roundw
            case rel => exact ⟨p + 1, by go_num, by omega, Lib.hid (all_succ.2 ⟨hrm.out, hr2.out⟩), HB4.out⟩
            case measure => simp [intOf]; omega
        · have hr2 := Lib.hid (show Room1 S row p from HR1.out.2 (.inl (Classical.byContradiction fun q => hf0 (Hf.out.2 q))))
          go_wp2_with fail
          go_roundw
          case rel => exact ⟨p + 1, by go_num, by omega, Lib.hid (all_succ.2 ⟨hrm.out, hr2.out⟩), HB4.out⟩
          case measure => simp [intOf]; omega
      · have hpI : ¬ (p : Int) < (m : Int) := by omega
        have hroom : Room S row := fun j hj => hrm.out j (by omega)
        have he0 : E = 0 := HE.out.trans (er_ok Har.out Hnl.out fun q => Hfull.out h3 q hroom)
        have HE0 := Lib.hid (show Ending.returned (.tuple #[.int .i64 (no : Int), .int .i64 0]) = .returned (.tuple #[.int .i64 (num S row off), .int .i64 E]) by rw [HNn.out, if_pos he0, he0])
        rw [if_pos he0] at HA
        have HA2 := Lib.hid (show app S row off = more S row off by rw [HA.out])
        have hd := H.out.below (hB.trans ((Below.refl wr.heap.size wr).drew.mono hB.size))
        obtain ⟨-, -, -, -, -, -, -, c7, c8⟩ := hd.cs
        rw [Hov.out.1] at c8
        have hVd := (HV.out.below hB).below (Below.refl wr.heap.size wr).drew
        obtain ⟨u6, w6, hrun6, hu6, hg6⟩ := Wd.run_appVs wr.drew 38 wr.drew.heap.size (.slice none 0 0) [] (World.ownsRow_nil _ _ _ _) B m d row hVd (by have := Hmr.out; simp; omega) (Nat.le_refl _)
        have hu6 : w6.ownsRow wr.drew.heap.size 49 4 u6 row.length (Wd.flatV row) := hu6
        obtain ⟨A6, c6, rfl⟩ : ∃ A6 c6, u6 = .slice A6 row.length c6 := Dt.own_shape hu6
        have hg6 : wr.drew.grownBy w6 none := hg6
        have hqn : some q ≠ (Value.slice Al no cl).ownBlock := hd.box.apart hd.rl (by decide)
        have hqo : some q ≠ ov.ownBlock := hd.box.apart hd.off (by decide)
        have b6 := hd.box.grown hg6 (by simp)
        have bA := b6.alloc (.cells #[.slice A6 row.length c6] 38)
        have r6 := Wd.own_keep hd.rl fun x hx => hg6.block x (Wd.own_lt hd.rl hx).1 (by simp)
        have o6 := Wd.own_keep hd.off fun x hx => hg6.block x (Wd.own_lt hd.off hx).1 (by simp)
        have hs6 := hg6.size
        have hsw := hd.bel.size
        have hus : us.length = no := by rw [hd.ul, ← HN.out]
        obtain ⟨A8, c8', w8, hrun8, hl8, hg8, hloc8⟩ := run_appS_at (w6.alloc (.cells #[.slice A6 row.length c6] 38)) 71 wo.heap.size (.slice Al no cl) us (by rw [hd.ul]; exact r6.alloc _) ⟨w6.heap.size, 0, none⟩ (.slice A6 row.length c6) rfl (by rw [Addr.add_lit]; exact (Wd.Bx.new w6 _ _).cell 0) (by omega) (by simp; omega)
        have b8 := bA.grown hg8 hqn
        have b9 := b8.set 7 (.slice A8 (us.length + 1) c8')
        have oA := o6.alloc (.cells #[.slice A6 row.length c6] 38)
        have o8 := Wd.own_keep oA fun x hx => hg8.block x (Wd.own_lt oA hx).1 (fun e => own_apart hd.off hd.rl (by decide) hx e.symm)
        have o9 := Wd.own_keep (w' := w8.setCell ⟨q, 7, none⟩ (.slice A8 (us.length + 1) c8')) o8 fun x hx => Below.heap_setCell _ _ _ _ (fun e => hqo ((congrArg some (show x = q from e)).symm.trans hx.symm))
        have hs8 := hg8.size
        simp only [World.size_alloc] at hs8
        have hs9 : (w8.setCell ⟨q, 7, none⟩ (.slice A8 (us.length + 1) c8')).heap.size = w8.heap.size := by simp [World.setCell]
        obtain ⟨A11, c11, w11, hrun11, ho11, hg11, hloc11⟩ := run_appI_at ((w8.setCell ⟨q, 7, none⟩ (.slice A8 (us.length + 1) c8')).alloc (.cells #[.int .i64 off] 3)) 51 wo.heap.size ov S.offs (o9.alloc _) ⟨(w8.setCell ⟨q, 7, none⟩ (.slice A8 (us.length + 1) c8')).heap.size, 0, none⟩ off (by rw [Addr.add_lit]; exact (Wd.Bx.new _ _ _).cell 0) (by rw [Hok.out.len, ← HN.out]; omega) (by simp only [World.size_alloc]; omega)
        have b11 := (b9.alloc (.cells #[.int .i64 off] 3)).grown hg11 hqo
        have hEnd : ∃ lv' ov' us', RL wo (w11.setCell ⟨q, 8, none⟩ (.slice A11 (S.offs.length + 1) c11)) q A n c lv' ov' us' (app S row off) ∧ Wd.Mv (Ft2 q (.slice Al no cl) ov us) w (w11.setCell ⟨q, 8, none⟩ (.slice A11 (S.offs.length + 1) c11)) ∧ ∀ x, Ft2 q lv' ov' us' x → Wd.Gr (Ft2 q (.slice Al no cl) ov us) w (w11.setCell ⟨q, 8, none⟩ (.slice A11 (S.offs.length + 1) c11)) x := by
          obtain ⟨e1, e2, e3⟩ := hd.grow (row := row) (off := off) hg6 hu6 hg8 hl8 hloc8 hg11 ho11 hloc11
          rw [HA2.out]
          have hbw : Below w.heap.size w wr.drew := HB.out.drew
          refine ⟨_, _, _, e1, (Wd.Mv.of_below hbw).then e2, fun x hx => ?_⟩
          rcases e3 x hx with z | z
          · exact .inl z
          · exact .inr ⟨Nat.le_trans hbw.size z.1, z.2⟩
        have HEnd := Lib.hid hEnd
        clear hs9
        have c76 : w6.cell? ⟨q, 7, none⟩ = some (.slice Al no cl) := (b6.cell 7).trans rfl
        have c7A : (w6.alloc (.cells #[.slice A6 row.length c6] 38)).cell? ⟨q, 7, none⟩ = some (.slice Al no cl) := (bA.cell 7).trans rfl
        have c78 : w8.cell? ⟨q, 7, none⟩ = some (.slice Al no cl) := (b8.cell 7).trans rfl
        have f78 := b8.free 7
        have c98 : (w8.setCell ⟨q, 7, none⟩ (.slice A8 (us.length + 1) c8')).cell? ⟨q, 8, none⟩ = some ov := (b9.cell 8).trans rfl
        have c118 : w11.cell? ⟨q, 8, none⟩ = some ov := (b11.cell 8).trans rfl
        have f118 := b11.free 8
        rw [Hov.out.1] at hrun11 c98 c118
        clear hmc hm8 hp hpm hroom he0 hus hs6 Bad H HV HB HB1
        clear hu6 hg6 hqn hqo b6 bA r6 o6 hsw hl8 hg8 hloc8 b8 b9 oA o8 o9 ho11 hg11 hloc11 b11 hEnd hd hVd hs8
        go_wp2_with fail
        rename_i hKs
        refine wp_region_any (by kernel_rfl) ?_
        refine wpAny_of_held (S := fun _ => True) _ _ _ _ ?_
        change wpAnyH _ _ _ _ _ 12 (Array.replicate 12 false) _ wr.drew
        refine Rt.take (i := 0) (d := 78) (v := (.pointer (some ⟨q, 0, none⟩))) rfl rfl (by kernel_rfl) (by kernel_rfl) (by kernel_rfl) (fun _ _ _ h => h) (Or.inl ⟨by rfl, ?_⟩) trivial ?_
        · intro w' _
          go_simp
        (try simp only [List.setIfInBounds_toArray, List.set_cons_zero, List.set_cons_succ])
        refine Rt.take (i := 1) (d := 79) (v := (.pointer (some ⟨q, 0, none⟩))) rfl rfl (by kernel_rfl) (by kernel_rfl) (by kernel_rfl) (fun _ _ _ h => h) (Or.inl ⟨by rfl, ?_⟩) trivial ?_
        · intro w' _
          go_simp
        (try simp only [List.setIfInBounds_toArray, List.set_cons_zero, List.set_cons_succ])
        refine Rt.take (i := 2) (d := 80) (v := (.pointer (some ⟨q, 0, none⟩))) rfl rfl (by kernel_rfl) (by kernel_rfl) (by kernel_rfl) (fun _ _ _ h => h) (Or.inl ⟨by rfl, ?_⟩) trivial ?_
        · intro w' _
          go_simp
        (try simp only [List.setIfInBounds_toArray, List.set_cons_zero, List.set_cons_succ])
        refine Rt.take (i := 3) (d := 81) (v := (.pointer (some ⟨q, 7, none⟩))) rfl rfl (by kernel_rfl) (by kernel_rfl) (by kernel_rfl) (fun _ _ _ h => h) (Or.inl ⟨by rfl, ?_⟩) trivial ?_
        · intro w' _
          go_simp
        (try simp only [List.setIfInBounds_toArray, List.set_cons_zero, List.set_cons_succ])
        refine Rt.take (i := 5) (d := 83) (v := (.slice B m d)) rfl rfl (by kernel_rfl) (by kernel_rfl) (by kernel_rfl) (fun _ _ _ h => h) (Or.inl ⟨by rfl, ?_⟩) trivial ?_
        · intro w' _
          go_simp
        (try simp only [List.setIfInBounds_toArray, List.set_cons_zero, List.set_cons_succ])
        refine wpAnyH_ready (rs := [4, 6]) (by kernel_rfl) (by simp) ?_
        refine AllReadyH.cons rfl (fun K hK => ?_) (AllReadyH.cons rfl (fun K hK => ?_) AllReadyH.nil)
        · skip
          go_simp
          refine hK.out _ _ trivial (fun _ => ?_)
          clear hK K
          (try simp only [Act.put, List.setIfInBounds_toArray, List.set_cons_zero, List.set_cons_succ])
          refine wpAnyH_ready (rs := [6]) (by kernel_rfl) (by simp) ?_
          refine AllReadyH.cons rfl (fun K hK => ?_) AllReadyH.nil
          refine step_runT rfl (s := .const (.slice none 0 0)) (x := .tmp 83) 38 rfl hrun6 ?_
          refine hK.out _ _ trivial (fun _ => ?_)
          clear hK K
          (try simp only [Act.put, List.setIfInBounds_toArray])
          refine wpAnyH_ready (rs := [7]) (by kernel_rfl) (by simp) ?_
          refine AllReadyH.cons rfl (fun K hK => ?_) AllReadyH.nil
          go_simp
          refine hK.out _ _ trivial (fun _ => ?_)
          clear hK K
          (try simp only [Act.put, List.setIfInBounds_toArray, List.set_cons_zero, List.set_cons_succ])
          refine wpAnyH_ready (rs := [8]) (by kernel_rfl) (by simp) ?_
          refine AllReadyH.cons rfl (fun K hK => ?_) AllReadyH.nil
          refine step_runT rfl (s := .tmp 82) (x := .tmp 85) 71 rfl hrun8 ?_
          refine hK.out _ _ trivial (fun _ => ?_)
          clear hK K
          (try simp only [Act.put, List.setIfInBounds_toArray])
          refine Rt.take (i := 9) (d := 87) (v := (.pointer (some ⟨q, 0, none⟩))) rfl rfl (by kernel_rfl) (by kernel_rfl) (by kernel_rfl) (fun _ _ _ h => h) (Or.inl ⟨by rfl, ?_⟩) trivial ?_
          · intro w' _
            go_simp
          (try simp only [List.setIfInBounds_toArray, List.set_cons_zero, List.set_cons_succ])
          refine Rt.take (i := 10) (d := 88) (v := (.pointer (some ⟨q, 7, none⟩))) rfl rfl (by kernel_rfl) (by kernel_rfl) (by kernel_rfl) (fun _ _ _ h => h) (Or.inl ⟨by rfl, ?_⟩) trivial ?_
          · intro w' _
            go_simp
          (try simp only [])
          refine wpAnyH_ready (rs := [11]) (by kernel_rfl) (by simp) ?_
          refine AllReadyH.cons rfl (fun K hK => ?_) AllReadyH.nil
          go_simp
          refine hK.out _ _ trivial (fun _ => ?_)
          clear hK K
          (try simp only [Act.put, List.setIfInBounds_toArray, List.set_cons_zero, List.set_cons_succ])
          refine wpAnyH_done (by kernel_rfl) ?_ _
          (try simp only [Exit.then])
          refine hKs _ _ ?_
          clear hKs
          generalize w8.setCell ⟨q, 7, none⟩ (.slice A8 (us.length + 1) c8') = w9 at *
          go_wp2_with (at_builtin; refine wpList_run rfl _ _ rfl hrun11 ?_)
          go_ret2
          exact ⟨HE0.out, HEnd.out⟩
        · skip
          refine step_runT rfl (s := .const (.slice none 0 0)) (x := .tmp 83) 38 rfl hrun6 ?_
          refine hK.out _ _ trivial (fun _ => ?_)
          clear hK K
          (try simp only [Act.put, List.setIfInBounds_toArray])
          refine wpAnyH_ready (rs := [4, 7]) (by kernel_rfl) (by simp) ?_
          refine AllReadyH.cons rfl (fun K hK => ?_) (AllReadyH.cons rfl (fun K hK => ?_) AllReadyH.nil)
          · skip
            go_simp
            refine hK.out _ _ trivial (fun _ => ?_)
            clear hK K
            (try simp only [Act.put, List.setIfInBounds_toArray, List.set_cons_zero, List.set_cons_succ])
            refine wpAnyH_ready (rs := [7]) (by kernel_rfl) (by simp) ?_
            refine AllReadyH.cons rfl (fun K hK => ?_) AllReadyH.nil
            go_simp
            refine hK.out _ _ trivial (fun _ => ?_)
            clear hK K
            (try simp only [Act.put, List.setIfInBounds_toArray, List.set_cons_zero, List.set_cons_succ])
            refine wpAnyH_ready (rs := [8]) (by kernel_rfl) (by simp) ?_
            refine AllReadyH.cons rfl (fun K hK => ?_) AllReadyH.nil
            refine step_runT rfl (s := .tmp 82) (x := .tmp 85) 71 rfl hrun8 ?_
            refine hK.out _ _ trivial (fun _ => ?_)
            clear hK K
            (try simp only [Act.put, List.setIfInBounds_toArray])
            refine Rt.take (i := 9) (d := 87) (v := (.pointer (some ⟨q, 0, none⟩))) rfl rfl (by kernel_rfl) (by kernel_rfl) (by kernel_rfl) (fun _ _ _ h => h) (Or.inl ⟨by rfl, ?_⟩) trivial ?_
            · intro w' _
              go_simp
            (try simp only [List.setIfInBounds_toArray, List.set_cons_zero, List.set_cons_succ])
            refine Rt.take (i := 10) (d := 88) (v := (.pointer (some ⟨q, 7, none⟩))) rfl rfl (by kernel_rfl) (by kernel_rfl) (by kernel_rfl) (fun _ _ _ h => h) (Or.inl ⟨by rfl, ?_⟩) trivial ?_
            · intro w' _
              go_simp
            (try simp only [])
            refine wpAnyH_ready (rs := [11]) (by kernel_rfl) (by simp) ?_
            refine AllReadyH.cons rfl (fun K hK => ?_) AllReadyH.nil
            go_simp
            refine hK.out _ _ trivial (fun _ => ?_)
            clear hK K
            (try simp only [Act.put, List.setIfInBounds_toArray, List.set_cons_zero, List.set_cons_succ])
            refine wpAnyH_done (by kernel_rfl) ?_ _
            (try simp only [Exit.then])
            refine hKs _ _ ?_
            clear hKs
            generalize w8.setCell ⟨q, 7, none⟩ (.slice A8 (us.length + 1) c8') = w9 at *
            go_wp2_with (at_builtin; refine wpList_run rfl _ _ rfl hrun11 ?_)
            go_ret2
            exact ⟨HE0.out, HEnd.out⟩
          · skip
            go_simp
            refine hK.out _ _ trivial (fun _ => ?_)
            clear hK K
            (try simp only [Act.put, List.setIfInBounds_toArray, List.set_cons_zero, List.set_cons_succ])
            refine wpAnyH_ready (rs := [4]) (by kernel_rfl) (by simp) ?_
            refine AllReadyH.cons rfl (fun K hK => ?_) AllReadyH.nil
            go_simp
            refine hK.out _ _ trivial (fun _ => ?_)
            clear hK K
            (try simp only [Act.put, List.setIfInBounds_toArray, List.set_cons_zero, List.set_cons_succ])
            refine wpAnyH_ready (rs := [8]) (by kernel_rfl) (by simp) ?_
            refine AllReadyH.cons rfl (fun K hK => ?_) AllReadyH.nil
            refine step_runT rfl (s := .tmp 82) (x := .tmp 85) 71 rfl hrun8 ?_
            refine hK.out _ _ trivial (fun _ => ?_)
            clear hK K
            (try simp only [Act.put, List.setIfInBounds_toArray])
            refine Rt.take (i := 9) (d := 87) (v := (.pointer (some ⟨q, 0, none⟩))) rfl rfl (by kernel_rfl) (by kernel_rfl) (by kernel_rfl) (fun _ _ _ h => h) (Or.inl ⟨by rfl, ?_⟩) trivial ?_
            · intro w' _
              go_simp
            (try simp only [List.setIfInBounds_toArray, List.set_cons_zero, List.set_cons_succ])
            refine Rt.take (i := 10) (d := 88) (v := (.pointer (some ⟨q, 7, none⟩))) rfl rfl (by kernel_rfl) (by kernel_rfl) (by kernel_rfl) (fun _ _ _ h => h) (Or.inl ⟨by rfl, ?_⟩) trivial ?_
            · intro w' _
              go_simp
            (try simp only [])
            refine wpAnyH_ready (rs := [11]) (by kernel_rfl) (by simp) ?_
            refine AllReadyH.cons rfl (fun K hK => ?_) AllReadyH.nil
            go_simp
            refine hK.out _ _ trivial (fun _ => ?_)
            clear hK K
            (try simp only [Act.put, List.setIfInBounds_toArray, List.set_cons_zero, List.set_cons_succ])
            refine wpAnyH_done (by kernel_rfl) ?_ _
            (try simp only [Exit.then])
            refine hKs _ _ ?_
            clear hKs
            generalize w8.setCell ⟨q, 7, none⟩ (.slice A8 (us.length + 1) c8') = w9 at *
            go_wp2_with (at_builtin; refine wpList_run rfl _ _ rfl hrun11 ?_)
            go_ret2
            exact ⟨HE0.out, HEnd.out⟩
  · have hz1 : 1 ≤ no := by omega
    have hrd := (Hov.out.2.below HB1.out).rd
    obtain ⟨b2, o2, rfl, hb2lt, hcell⟩ := hrd.some_ (by rw [Hok.out.len, ← HN.out]; exact hz1)
    have cl2 := hcell (no - 1) (by have := HN.out; rw [Hok.out.len]; omega)
    obtain ⟨z, hz⟩ : ∃ z, z = S.offs.getD (no - 1) 0 := ⟨_, rfl⟩
    rw [← hz] at cl2
    have hi0 : (0 : Int) ≤ (no : Int) - 1 := by omega
    have hi1 : (no : Int) - 1 < (no : Int) := by omega
    have hi2 : ((no : Int) - 1).toNat = no - 1 := by omega
    have hi3 : (0 : Int) < (no : Int) := by omega
    have hln : S.offs.length = no := by rw [Hok.out.len, ← HN.out]
    have HLate := Lib.hid (show Late S off ↔ off ≤ z from ⟨fun q => by have := q.2; rw [hln, ← hz] at this; exact this, fun q => ⟨fun e => by rw [e] at hln; simp at hln; omega, by rw [hln, ← hz]; exact q⟩⟩)
    have hdd : decide (0 < no) = true := decide_eq_true hz1
    clear hcell hz h0 hln hrd
    by_cases hL : off ≤ z
    · have e1 := Lib.hid (HE.out.trans (er_late Har.out (HLate.out.2 hL)))
      go_wp2_with fail
      go_ret2
      exact ⟨by rw [HNn.out, e1.out]; rfl, Bad.out _ (HB1.out.trans ((Below.refl _ _).mono HB1.out.size)) (by rw [e1.out]; decide)⟩
    have Hnl := Lib.hid (show ¬ Late S off from fun q => hL (HLate.out.1 q))
    have hfull : (¬ most0 ≤ (no : Int)) → Full S row → ¬ Room S row := fun q z => z.elim (fun y => absurd (by rw [Hm0.out, HN.out]; exact y) q) id
    have Hfull := Lib.hid hfull
    clear hfull
    by_cases h3 : most0 ≤ (no : Int)
    · have e1 := Lib.hid (HE.out.trans (er_full Har.out Hnl.out (.inl (by rw [← HN.out, ← Hm0.out]; exact h3))))
      go_wp2_with fail
      go_ret2
      exact ⟨by rw [HNn.out, e1.out]; rfl, Bad.out _ HB1.out (by rw [e1.out]; decide)⟩
    go_wp2_with fail
    go_loopw [10] (fun i wr => ∃ p : Nat, i = .int .i64 p ∧ p ≤ m ∧ Hid (∀ j, j < p → Room1 S row j) ∧ Below w.heap.size w wr) (fun i _ => m - (intOf i).toNat)
    case atStart => exact ⟨0, rfl, Nat.zero_le _, Lib.hid (fun j hj => by omega), HB1.out⟩
    case round =>
      clear d5 d7 d8
      obtain ⟨p, rfl, hp, hrm, hB⟩ := hrel
      have HB := Lib.hid hB
      have hmc : m = S.s.cols.length := by rw [Hmr.out, Sc.fits_len HF.out.2]
      have hm8 : m ≤ 8 := by rw [hmc]; exact (cols_len Hok.out).2
      by_cases hpm : p < m
      · have hpI : (p : Int) < (m : Int) := by omega
        have hpr : p < row.length := by rw [← Hmr.out]; exact hpm
        have hps : p < S.s.cols.length := by omega
        obtain ⟨y, hy⟩ : ∃ y, y = row.getD p default := ⟨_, rfl⟩
        have Co := Lib.hid (own_any (H.out.below hB) Hok.out p hps)
        obtain ⟨L, hL⟩ : ∃ L, L = ow (col S.rows p) := ⟨_, rfl⟩
        rw [← hL] at Co
        have HLv := Lib.hid (show ∀ j, j < L.length → Wd.V1 (L.getD j default) from v1_mem fun x hx => Sx.v1_of (ow_ok Hok.out hps x (by rw [← hL]; exact hx)))
        have HR1 := Lib.hid (show Room1 S row p ↔ y ∈ L ∨ (L.length : Int) < vals0 by rw [hy, hL, Hv0.out]; rfl)
        have Hy := Lib.hid hy
        have hL4 : L.length ≤ 4096 := by have := Hok.out.own p hps; rw [← hL] at this; have := Hok.out.v1; omega
        clear hL hy hmc hB
        go_wp2_with fail
        refine Co.out.mono ?_
        rintro e w3 ⟨v, rfl, hown, hB3⟩
        obtain ⟨A2, n2, c2, rfl, hV2⟩ := Wd.Vs.of_own hown HLv.out
        have HV2 := Lib.hid hV2
        have HB3 := Lib.hid (HB.out.trans (hB3.mono HB.out.size))
        obtain ⟨b, o, hBe, hb, e0, e1, e2, e3, -⟩ := (HV.out.below HB3.out).cells (j := p) hpr Hy.out
        subst hBe
        have hn2 := hV2.len
        have Hn2 := Lib.hid hn2
        have hn24 : n2 ≤ 4096 := by omega
        have Cf := Lib.hid (Dx.refFind_any A2 n2 c2 L y.kind y.i y.s y.b w3 hV2)
        obtain ⟨f, hf⟩ : ∃ f, f = Dc.fnd L y := ⟨_, rfl⟩
        have Cf : Hid (Calls Try.prog 37 #[.slice A2 n2 c2, .agg #[.int .i64 y.kind, .int .i64 y.i, .string y.s, .bool y.b]] w3 fun e w' => e = .returned (.int .i64 f) ∧ Below w3.heap.size w3 w') := Lib.hid (by rw [hf]; exact Cf.out)
        have Hf := Lib.hid (show f < 0 ↔ y ∉ L from ⟨fun z q => by have := Dc.fnd_pos.2 q; omega, fun z => by rw [hf, Dc.fnd_none z]; omega⟩)
        clear hown hV2 hB3 hn2 hf Co
        go_wp2_with fail
        refine Cf.out.mono ?_
        rintro e w4 ⟨rfl, hB4⟩
        have HB4 := Lib.hid (HB3.out.trans (hB4.mono HB3.out.size))
        obtain ⟨-, -, -, -, -, -, d6, -, -⟩ := (H.out.below HB4.out).cs
        rw [← Hv0.out] at d6
        clear hB4 e0 e1 e2 e3 Cf
        by_cases hf0 : f < 0
        · by_cases hv : vals0 ≤ (n2 : Int)
          · have e1 := Lib.hid (HE.out.trans (er_full Har.out Hnl.out (.inr fun q => by
              rcases HR1.out.1 (q p hps) with z | z
              · exact Hf.out.1 hf0 z
              · have := Hn2.out
                omega)))
            go_wp2_with fail
            go_ret2
            exact ⟨by rw [HNn.out, e1.out]; rfl, Bad.out _ HB4.out (by rw [e1.out]; decide)⟩
          · have hr2 := Lib.hid (show Room1 S row p from HR1.out.2 (.inr (by have := Hn2.out; omega)))
            go_wp2_with fail
            go_roundw
            case rel => exact ⟨p + 1, by go_num, by omega, Lib.hid (all_succ.2 ⟨hrm.out, hr2.out⟩), HB4.out⟩
            case measure => simp [intOf]; omega
        · have hr2 := Lib.hid (show Room1 S row p from HR1.out.2 (.inl (Classical.byContradiction fun q => hf0 (Hf.out.2 q))))
          go_wp2_with fail
          go_roundw
          case rel => exact ⟨p + 1, by go_num, by omega, Lib.hid (all_succ.2 ⟨hrm.out, hr2.out⟩), HB4.out⟩
          case measure => simp [intOf]; omega
      · have hpI : ¬ (p : Int) < (m : Int) := by omega
        have hroom : Room S row := fun j hj => hrm.out j (by omega)
        have he0 : E = 0 := HE.out.trans (er_ok Har.out Hnl.out fun q => Hfull.out h3 q hroom)
        have HE0 := Lib.hid (show Ending.returned (.tuple #[.int .i64 (no : Int), .int .i64 0]) = .returned (.tuple #[.int .i64 (num S row off), .int .i64 E]) by rw [HNn.out, if_pos he0, he0])
        rw [if_pos he0] at HA
        have HA2 := Lib.hid (show app S row off = more S row off by rw [HA.out])
        have hd := H.out.below (hB.trans ((Below.refl wr.heap.size wr).drew.mono hB.size))
        obtain ⟨-, -, -, -, -, -, -, c7, c8⟩ := hd.cs
        rw [Hov.out.1] at c8
        have hVd := (HV.out.below hB).below (Below.refl wr.heap.size wr).drew
        obtain ⟨u6, w6, hrun6, hu6, hg6⟩ := Wd.run_appVs wr.drew 38 wr.drew.heap.size (.slice none 0 0) [] (World.ownsRow_nil _ _ _ _) B m d row hVd (by have := Hmr.out; simp; omega) (Nat.le_refl _)
        have hu6 : w6.ownsRow wr.drew.heap.size 49 4 u6 row.length (Wd.flatV row) := hu6
        obtain ⟨A6, c6, rfl⟩ : ∃ A6 c6, u6 = .slice A6 row.length c6 := Dt.own_shape hu6
        have hg6 : wr.drew.grownBy w6 none := hg6
        have hqn : some q ≠ (Value.slice Al no cl).ownBlock := hd.box.apart hd.rl (by decide)
        have hqo : some q ≠ ov.ownBlock := hd.box.apart hd.off (by decide)
        have b6 := hd.box.grown hg6 (by simp)
        have bA := b6.alloc (.cells #[.slice A6 row.length c6] 38)
        have r6 := Wd.own_keep hd.rl fun x hx => hg6.block x (Wd.own_lt hd.rl hx).1 (by simp)
        have o6 := Wd.own_keep hd.off fun x hx => hg6.block x (Wd.own_lt hd.off hx).1 (by simp)
        have hs6 := hg6.size
        have hsw := hd.bel.size
        have hus : us.length = no := by rw [hd.ul, ← HN.out]
        obtain ⟨A8, c8', w8, hrun8, hl8, hg8, hloc8⟩ := run_appS_at (w6.alloc (.cells #[.slice A6 row.length c6] 38)) 71 wo.heap.size (.slice Al no cl) us (by rw [hd.ul]; exact r6.alloc _) ⟨w6.heap.size, 0, none⟩ (.slice A6 row.length c6) rfl (by rw [Addr.add_lit]; exact (Wd.Bx.new w6 _ _).cell 0) (by omega) (by simp; omega)
        have b8 := bA.grown hg8 hqn
        have b9 := b8.set 7 (.slice A8 (us.length + 1) c8')
        have oA := o6.alloc (.cells #[.slice A6 row.length c6] 38)
        have o8 := Wd.own_keep oA fun x hx => hg8.block x (Wd.own_lt oA hx).1 (fun e => own_apart hd.off hd.rl (by decide) hx e.symm)
        have o9 := Wd.own_keep (w' := w8.setCell ⟨q, 7, none⟩ (.slice A8 (us.length + 1) c8')) o8 fun x hx => Below.heap_setCell _ _ _ _ (fun e => hqo ((congrArg some (show x = q from e)).symm.trans hx.symm))
        have hs8 := hg8.size
        simp only [World.size_alloc] at hs8
        have hs9 : (w8.setCell ⟨q, 7, none⟩ (.slice A8 (us.length + 1) c8')).heap.size = w8.heap.size := by simp [World.setCell]
        obtain ⟨A11, c11, w11, hrun11, ho11, hg11, hloc11⟩ := run_appI_at ((w8.setCell ⟨q, 7, none⟩ (.slice A8 (us.length + 1) c8')).alloc (.cells #[.int .i64 off] 3)) 51 wo.heap.size ov S.offs (o9.alloc _) ⟨(w8.setCell ⟨q, 7, none⟩ (.slice A8 (us.length + 1) c8')).heap.size, 0, none⟩ off (by rw [Addr.add_lit]; exact (Wd.Bx.new _ _ _).cell 0) (by rw [Hok.out.len, ← HN.out]; omega) (by simp only [World.size_alloc]; omega)
        have b11 := (b9.alloc (.cells #[.int .i64 off] 3)).grown hg11 hqo
        have hEnd : ∃ lv' ov' us', RL wo (w11.setCell ⟨q, 8, none⟩ (.slice A11 (S.offs.length + 1) c11)) q A n c lv' ov' us' (app S row off) ∧ Wd.Mv (Ft2 q (.slice Al no cl) ov us) w (w11.setCell ⟨q, 8, none⟩ (.slice A11 (S.offs.length + 1) c11)) ∧ ∀ x, Ft2 q lv' ov' us' x → Wd.Gr (Ft2 q (.slice Al no cl) ov us) w (w11.setCell ⟨q, 8, none⟩ (.slice A11 (S.offs.length + 1) c11)) x := by
          obtain ⟨e1, e2, e3⟩ := hd.grow (row := row) (off := off) hg6 hu6 hg8 hl8 hloc8 hg11 ho11 hloc11
          rw [HA2.out]
          have hbw : Below w.heap.size w wr.drew := HB.out.drew
          refine ⟨_, _, _, e1, (Wd.Mv.of_below hbw).then e2, fun x hx => ?_⟩
          rcases e3 x hx with z | z
          · exact .inl z
          · exact .inr ⟨Nat.le_trans hbw.size z.1, z.2⟩
        have HEnd := Lib.hid hEnd
        clear hs9
        have c76 : w6.cell? ⟨q, 7, none⟩ = some (.slice Al no cl) := (b6.cell 7).trans rfl
        have c7A : (w6.alloc (.cells #[.slice A6 row.length c6] 38)).cell? ⟨q, 7, none⟩ = some (.slice Al no cl) := (bA.cell 7).trans rfl
        have c78 : w8.cell? ⟨q, 7, none⟩ = some (.slice Al no cl) := (b8.cell 7).trans rfl
        have f78 := b8.free 7
        have c98 : (w8.setCell ⟨q, 7, none⟩ (.slice A8 (us.length + 1) c8')).cell? ⟨q, 8, none⟩ = some ov := (b9.cell 8).trans rfl
        have c118 : w11.cell? ⟨q, 8, none⟩ = some ov := (b11.cell 8).trans rfl
        have f118 := b11.free 8
        rw [Hov.out.1] at hrun11 c98 c118
        clear hmc hm8 hp hpm hroom he0 hus hs6 Bad H HV HB HB1
        clear hu6 hg6 hqn hqo b6 bA r6 o6 hsw hl8 hg8 hloc8 b8 b9 oA o8 o9 ho11 hg11 hloc11 b11 hEnd hd hVd hs8
        go_wp2_with fail
        rename_i hKs
        refine wp_region_any (by kernel_rfl) ?_
        refine wpAny_of_held (S := fun _ => True) _ _ _ _ ?_
        change wpAnyH _ _ _ _ _ 12 (Array.replicate 12 false) _ wr.drew
        refine Rt.take (i := 0) (d := 78) (v := (.pointer (some ⟨q, 0, none⟩))) rfl rfl (by kernel_rfl) (by kernel_rfl) (by kernel_rfl) (fun _ _ _ h => h) (Or.inl ⟨by rfl, ?_⟩) trivial ?_
        · intro w' _
          go_simp
        (try simp only [List.setIfInBounds_toArray, List.set_cons_zero, List.set_cons_succ])
        refine Rt.take (i := 1) (d := 79) (v := (.pointer (some ⟨q, 0, none⟩))) rfl rfl (by kernel_rfl) (by kernel_rfl) (by kernel_rfl) (fun _ _ _ h => h) (Or.inl ⟨by rfl, ?_⟩) trivial ?_
        · intro w' _
          go_simp
        (try simp only [List.setIfInBounds_toArray, List.set_cons_zero, List.set_cons_succ])
        refine Rt.take (i := 2) (d := 80) (v := (.pointer (some ⟨q, 0, none⟩))) rfl rfl (by kernel_rfl) (by kernel_rfl) (by kernel_rfl) (fun _ _ _ h => h) (Or.inl ⟨by rfl, ?_⟩) trivial ?_
        · intro w' _
          go_simp
        (try simp only [List.setIfInBounds_toArray, List.set_cons_zero, List.set_cons_succ])
        refine Rt.take (i := 3) (d := 81) (v := (.pointer (some ⟨q, 7, none⟩))) rfl rfl (by kernel_rfl) (by kernel_rfl) (by kernel_rfl) (fun _ _ _ h => h) (Or.inl ⟨by rfl, ?_⟩) trivial ?_
        · intro w' _
          go_simp
        (try simp only [List.setIfInBounds_toArray, List.set_cons_zero, List.set_cons_succ])
        refine Rt.take (i := 5) (d := 83) (v := (.slice B m d)) rfl rfl (by kernel_rfl) (by kernel_rfl) (by kernel_rfl) (fun _ _ _ h => h) (Or.inl ⟨by rfl, ?_⟩) trivial ?_
        · intro w' _
          go_simp
        (try simp only [List.setIfInBounds_toArray, List.set_cons_zero, List.set_cons_succ])
        refine wpAnyH_ready (rs := [4, 6]) (by kernel_rfl) (by simp) ?_
        refine AllReadyH.cons rfl (fun K hK => ?_) (AllReadyH.cons rfl (fun K hK => ?_) AllReadyH.nil)
        · skip
          go_simp
          refine hK.out _ _ trivial (fun _ => ?_)
          clear hK K
          (try simp only [Act.put, List.setIfInBounds_toArray, List.set_cons_zero, List.set_cons_succ])
          refine wpAnyH_ready (rs := [6]) (by kernel_rfl) (by simp) ?_
          refine AllReadyH.cons rfl (fun K hK => ?_) AllReadyH.nil
          refine step_runT rfl (s := .const (.slice none 0 0)) (x := .tmp 83) 38 rfl hrun6 ?_
          refine hK.out _ _ trivial (fun _ => ?_)
          clear hK K
          (try simp only [Act.put, List.setIfInBounds_toArray])
          refine wpAnyH_ready (rs := [7]) (by kernel_rfl) (by simp) ?_
          refine AllReadyH.cons rfl (fun K hK => ?_) AllReadyH.nil
          go_simp
          refine hK.out _ _ trivial (fun _ => ?_)
          clear hK K
          (try simp only [Act.put, List.setIfInBounds_toArray, List.set_cons_zero, List.set_cons_succ])
          refine wpAnyH_ready (rs := [8]) (by kernel_rfl) (by simp) ?_
          refine AllReadyH.cons rfl (fun K hK => ?_) AllReadyH.nil
          refine step_runT rfl (s := .tmp 82) (x := .tmp 85) 71 rfl hrun8 ?_
          refine hK.out _ _ trivial (fun _ => ?_)
          clear hK K
          (try simp only [Act.put, List.setIfInBounds_toArray])
          refine Rt.take (i := 9) (d := 87) (v := (.pointer (some ⟨q, 0, none⟩))) rfl rfl (by kernel_rfl) (by kernel_rfl) (by kernel_rfl) (fun _ _ _ h => h) (Or.inl ⟨by rfl, ?_⟩) trivial ?_
          · intro w' _
            go_simp
          (try simp only [List.setIfInBounds_toArray, List.set_cons_zero, List.set_cons_succ])
          refine Rt.take (i := 10) (d := 88) (v := (.pointer (some ⟨q, 7, none⟩))) rfl rfl (by kernel_rfl) (by kernel_rfl) (by kernel_rfl) (fun _ _ _ h => h) (Or.inl ⟨by rfl, ?_⟩) trivial ?_
          · intro w' _
            go_simp
          (try simp only [])
          refine wpAnyH_ready (rs := [11]) (by kernel_rfl) (by simp) ?_
          refine AllReadyH.cons rfl (fun K hK => ?_) AllReadyH.nil
          go_simp
          refine hK.out _ _ trivial (fun _ => ?_)
          clear hK K
          (try simp only [Act.put, List.setIfInBounds_toArray, List.set_cons_zero, List.set_cons_succ])
          refine wpAnyH_done (by kernel_rfl) ?_ _
          (try simp only [Exit.then])
          refine hKs _ _ ?_
          clear hKs
          generalize w8.setCell ⟨q, 7, none⟩ (.slice A8 (us.length + 1) c8') = w9 at *
          go_wp2_with (at_builtin; refine wpList_run rfl _ _ rfl hrun11 ?_)
          go_ret2
          exact ⟨HE0.out, HEnd.out⟩
        · skip
          refine step_runT rfl (s := .const (.slice none 0 0)) (x := .tmp 83) 38 rfl hrun6 ?_
          refine hK.out _ _ trivial (fun _ => ?_)
          clear hK K
          (try simp only [Act.put, List.setIfInBounds_toArray])
          refine wpAnyH_ready (rs := [4, 7]) (by kernel_rfl) (by simp) ?_
          refine AllReadyH.cons rfl (fun K hK => ?_) (AllReadyH.cons rfl (fun K hK => ?_) AllReadyH.nil)
          · skip
            go_simp
            refine hK.out _ _ trivial (fun _ => ?_)
            clear hK K
            (try simp only [Act.put, List.setIfInBounds_toArray, List.set_cons_zero, List.set_cons_succ])
            refine wpAnyH_ready (rs := [7]) (by kernel_rfl) (by simp) ?_
            refine AllReadyH.cons rfl (fun K hK => ?_) AllReadyH.nil
            go_simp
            refine hK.out _ _ trivial (fun _ => ?_)
            clear hK K
            (try simp only [Act.put, List.setIfInBounds_toArray, List.set_cons_zero, List.set_cons_succ])
            refine wpAnyH_ready (rs := [8]) (by kernel_rfl) (by simp) ?_
            refine AllReadyH.cons rfl (fun K hK => ?_) AllReadyH.nil
            refine step_runT rfl (s := .tmp 82) (x := .tmp 85) 71 rfl hrun8 ?_
            refine hK.out _ _ trivial (fun _ => ?_)
            clear hK K
            (try simp only [Act.put, List.setIfInBounds_toArray])
            refine Rt.take (i := 9) (d := 87) (v := (.pointer (some ⟨q, 0, none⟩))) rfl rfl (by kernel_rfl) (by kernel_rfl) (by kernel_rfl) (fun _ _ _ h => h) (Or.inl ⟨by rfl, ?_⟩) trivial ?_
            · intro w' _
              go_simp
            (try simp only [List.setIfInBounds_toArray, List.set_cons_zero, List.set_cons_succ])
            refine Rt.take (i := 10) (d := 88) (v := (.pointer (some ⟨q, 7, none⟩))) rfl rfl (by kernel_rfl) (by kernel_rfl) (by kernel_rfl) (fun _ _ _ h => h) (Or.inl ⟨by rfl, ?_⟩) trivial ?_
            · intro w' _
              go_simp
            (try simp only [])
            refine wpAnyH_ready (rs := [11]) (by kernel_rfl) (by simp) ?_
            refine AllReadyH.cons rfl (fun K hK => ?_) AllReadyH.nil
            go_simp
            refine hK.out _ _ trivial (fun _ => ?_)
            clear hK K
            (try simp only [Act.put, List.setIfInBounds_toArray, List.set_cons_zero, List.set_cons_succ])
            refine wpAnyH_done (by kernel_rfl) ?_ _
            (try simp only [Exit.then])
            refine hKs _ _ ?_
            clear hKs
            generalize w8.setCell ⟨q, 7, none⟩ (.slice A8 (us.length + 1) c8') = w9 at *
            go_wp2_with (at_builtin; refine wpList_run rfl _ _ rfl hrun11 ?_)
            go_ret2
            exact ⟨HE0.out, HEnd.out⟩
          · skip
            go_simp
            refine hK.out _ _ trivial (fun _ => ?_)
            clear hK K
            (try simp only [Act.put, List.setIfInBounds_toArray, List.set_cons_zero, List.set_cons_succ])
            refine wpAnyH_ready (rs := [4]) (by kernel_rfl) (by simp) ?_
            refine AllReadyH.cons rfl (fun K hK => ?_) AllReadyH.nil
            go_simp
            refine hK.out _ _ trivial (fun _ => ?_)
            clear hK K
            (try simp only [Act.put, List.setIfInBounds_toArray, List.set_cons_zero, List.set_cons_succ])
            refine wpAnyH_ready (rs := [8]) (by kernel_rfl) (by simp) ?_
            refine AllReadyH.cons rfl (fun K hK => ?_) AllReadyH.nil
            refine step_runT rfl (s := .tmp 82) (x := .tmp 85) 71 rfl hrun8 ?_
            refine hK.out _ _ trivial (fun _ => ?_)
            clear hK K
            (try simp only [Act.put, List.setIfInBounds_toArray])
            refine Rt.take (i := 9) (d := 87) (v := (.pointer (some ⟨q, 0, none⟩))) rfl rfl (by kernel_rfl) (by kernel_rfl) (by kernel_rfl) (fun _ _ _ h => h) (Or.inl ⟨by rfl, ?_⟩) trivial ?_
            · intro w' _
              go_simp
            (try simp only [List.setIfInBounds_toArray, List.set_cons_zero, List.set_cons_succ])
            refine Rt.take (i := 10) (d := 88) (v := (.pointer (some ⟨q, 7, none⟩))) rfl rfl (by kernel_rfl) (by kernel_rfl) (by kernel_rfl) (fun _ _ _ h => h) (Or.inl ⟨by rfl, ?_⟩) trivial ?_
            · intro w' _
              go_simp
            (try simp only [])
            refine wpAnyH_ready (rs := [11]) (by kernel_rfl) (by simp) ?_
            refine AllReadyH.cons rfl (fun K hK => ?_) AllReadyH.nil
            go_simp
            refine hK.out _ _ trivial (fun _ => ?_)
            clear hK K
            (try simp only [Act.put, List.setIfInBounds_toArray, List.set_cons_zero, List.set_cons_succ])
            refine wpAnyH_done (by kernel_rfl) ?_ _
            (try simp only [Exit.then])
            refine hKs _ _ ?_
            clear hKs
            generalize w8.setCell ⟨q, 7, none⟩ (.slice A8 (us.length + 1) c8') = w9 at *
            go_wp2_with (at_builtin; refine wpList_run rfl _ _ rfl hrun11 ?_)
            go_ret2
            exact ⟨HE0.out, HEnd.out⟩
end Rf
end Go.Proofs.Ytfeolclpgilfdaa
