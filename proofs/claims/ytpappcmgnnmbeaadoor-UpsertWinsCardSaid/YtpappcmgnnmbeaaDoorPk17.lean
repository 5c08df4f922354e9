/- What isNull and schema.Fits do. -/
import Derived.Test.YtpappcmgnnmbeaaDoorPk13
import Derived.Test.YtpappcmgnnmbeaaDoorPk02
import Derived.Test.YtpappcmgnnmbeaaDoorPk14
namespace Go.Proofs.YtpappcmgnnmbeaaDoor
set_option maxRecDepth 20000
open Go.RowKit
namespace Sx
open Sc (Col Sch tr tr_yes tr_no MayS FitS fits_get fit1 fit1_iff Ok)
open Va (Vl May)
theorem isNull_any (s : ByteArray) (k : Int) (b : Bool) (k2 i2 : Int) (s2 : ByteArray) (b2 : Bool) (w : World) :
    Calls Tryd.prog 67 #[.agg #[.string s, .int .i64 k, .bool b], .agg #[.int .i64 k2, .int .i64 i2, .string s2, .bool b2]] w fun e w' => e = .returned (.bool (b && (k2 == 0))) ∧ Below w.heap.size w w' := by
  cases b
  · go_enter Tryd.func67, Tryd.ntmps67
    go_wp2_with fail
    go_ret
    exact ⟨rfl, ((Below.refl _ _).alloc (Nat.le_refl _) _).alloc (by simp) _⟩
  · go_enter Tryd.func67, Tryd.ntmps67
    go_wp2_with fail
    go_ret
    exact ⟨rfl, ((Below.refl _ _).alloc (Nat.le_refl _) _).alloc (by simp) _⟩
theorem and7 {w : World} {b f0 f1 f2 f3 g : Nat} {x0 x1 x2 x3 y0 y1 y2 : Value} {B : Nat} {w' : World}
    (h : w.cell? ⟨b, f0, none⟩ = some x0 ∧ w.cell? ⟨b, f1, none⟩ = some x1 ∧ w.cell? ⟨b, f2, none⟩ = some x2 ∧ w.cell? ⟨b, f3, none⟩ = some x3 ∧ w.cell? ⟨g, 0, none⟩ = some y0 ∧ w.cell? ⟨g, 1, none⟩ = some y1 ∧ w.cell? ⟨g, 2, none⟩ = some y2)
    (hb : Below B w w') (hB : b < B) (hG : g < B) :
    w'.cell? ⟨b, f0, none⟩ = some x0 ∧ w'.cell? ⟨b, f1, none⟩ = some x1 ∧ w'.cell? ⟨b, f2, none⟩ = some x2 ∧ w'.cell? ⟨b, f3, none⟩ = some x3 ∧ w'.cell? ⟨g, 0, none⟩ = some y0 ∧ w'.cell? ⟨g, 1, none⟩ = some y1 ∧ w'.cell? ⟨g, 2, none⟩ = some y2 :=
  ⟨(hb.cell (p := ⟨b, f0, none⟩) hB).trans h.1, (hb.cell (p := ⟨b, f1, none⟩) hB).trans h.2.1, (hb.cell (p := ⟨b, f2, none⟩) hB).trans h.2.2.1, (hb.cell (p := ⟨b, f3, none⟩) hB).trans h.2.2.2.1,
    (hb.cell (p := ⟨g, 0, none⟩) hG).trans h.2.2.2.2.1, (hb.cell (p := ⟨g, 1, none⟩) hG).trans h.2.2.2.2.2.1, (hb.cell (p := ⟨g, 2, none⟩) hG).trans h.2.2.2.2.2.2⟩
theorem ok_of {v : Vl} (h : May v) (h1 : Wd.V1 v) : Ok v := ⟨h, (bounds_i64 h1.w1).1, (bounds_i64 h1.w1).2⟩
set_option maxHeartbeats 4000000 in
theorem Fits_any (A : Option Addr) (n c : Nat) (s : Sch) (R : Option Addr) (m d : Nat) (vs : List Vl) (w : World) (hS : Wd.Cs w A n c s.cols) (hV : Wd.Vs w R m d vs) (hn : n ≤ 1000000) :
    Calls Tryd.prog 44 #[.agg #[.slice A n c, .int .i64 s.key, .int .i64 s.cmp, .int .i64 s.del, .int .i64 s.sort], .slice R m d] w fun e w' => e = .returned (.bool (tr (FitS s vs))) ∧ Below w.heap.size w w' := by
  have hb0 := (Below.refl w.heap.size w).alloc (Nat.le_refl _) (.cells #[.slice A n c, .int .i64 s.key, .int .i64 s.cmp, .int .i64 s.del, .int .i64 s.sort] 24)
  have s0 : Sb (w.alloc (.cells #[.slice A n c, .int .i64 s.key, .int .i64 s.cmp, .int .i64 s.del, .int .i64 s.sort] 24)) w.heap.size A n c s.key s.cmp s.del s.sort := Wd.Bx.new w _ _
  have Cm := Lib.hid (May_any A n c s _ (hS.below hb0) hn)
  have Hl := Lib.hid hS.len
  have Hm := Lib.hid hV.len
  have HS := Lib.hid (hS.below hb0)
  have HV := Lib.hid (hV.below hb0)
  have hcap := hS.cap
  have hcapd := hV.cap
  obtain ⟨r, hr⟩ : ∃ r, r = tr (FitS s vs) := ⟨_, rfl⟩
  rw [← hr]
  have Hr := Lib.hid hr
  clear hr hS hV
  by_cases hM : MayS s
  case neg =>
    have e : r = false := by rw [Hr.out]; exact tr_no fun h => hM h.1
    rw [tr_no hM] at Cm
    subst e
    clear hM
    go_enter Tryd.func44, Tryd.ntmps44
    go_wp2_with fail
    refine Cm.out.mono ?_
    rintro e w1 ⟨rfl, hB1⟩
    go_wp2_with fail
    go_ret
    exact ⟨rfl, hb0.trans (hB1.mono hb0.size)⟩
  rw [tr_yes hM] at Cm
  have HM := Lib.hid hM
  clear hM
  have s0' := Lib.hid s0
  clear s0
  by_cases hmn : m = n
  case neg =>
    have e : r = false := by rw [Hr.out]; exact tr_no fun h => hmn (by have := Sc.fits_len h.2; rw [Hm.out, Hl.out]; exact this)
    subst e
    have qm : ((m : Int) != (n : Int)) = true := by simp; omega
    clear hmn
    go_enter Tryd.func44, Tryd.ntmps44
    go_wp2_with fail
    refine Cm.out.mono ?_
    rintro e w1 ⟨rfl, hB1⟩
    generalize w.alloc (.cells #[.slice A n c, .int .i64 s.key, .int .i64 s.cmp, .int .i64 s.del, .int .i64 s.sort] 24) = wa at *
    obtain ⟨p0, p1, p2, p3, p4⟩ := five (s0'.out.below (Wd.Bx.lt s0'.out) hB1)
    go_wp2_with fail
    go_ret
    exact ⟨rfl, hb0.trans (hB1.mono hb0.size)⟩
  subst hmn
  go_enter Tryd.func44, Tryd.ntmps44
  go_wp2_with fail
  refine Cm.out.mono ?_
  rintro e w1 ⟨rfl, hB1⟩
  generalize w.alloc (.cells #[.slice A m c, .int .i64 s.key, .int .i64 s.cmp, .int .i64 s.del, .int .i64 s.sort] 24) = wa at *
  have s1 := s0'.out.below (Wd.Bx.lt s0'.out) hB1
  have hb1 := hb0.trans (hB1.mono hb0.size)
  have HS1 := Lib.hid (HS.out.below hB1)
  have HV1 := Lib.hid (HV.out.below hB1)
  obtain ⟨p0, p1, p2, p3, p4⟩ := five s1
  go_wp2
  go_loopw [21] (fun i wr => ∃ k : Nat, i = .int .i64 k ∧ k ≤ m ∧ Hid (∀ j, j < k → fit1 (s.cols.getD j default) (vs.getD j default)) ∧ Below w1.heap.size w1 wr) (fun i _ => m - (intOf i).toNat)
  case atStart => exact ⟨0, rfl, Nat.zero_le _, Lib.hid (fun j hj => by omega), Below.refl _ _⟩
  case round =>
    obtain ⟨k, rfl, hk, hf, hB⟩ := hrel
    have hbr := hb1.trans (hB.mono hb1.size)
    have hZ := hB.size
    clear p0 p1 p2 p3 p4
    by_cases hlt : k < m
    · obtain ⟨b, o, hA, hbB, c0, c1, c2, _⟩ := (HS1.out.below hB).cells (j := k) (by rw [← Hl.out]; exact hlt) rfl
      subst hA
      obtain ⟨x, hx⟩ : ∃ x, x = s.cols.getD k default := ⟨_, rfl⟩
      rw [← hx] at c0 c1 c2
      have Hx := Lib.hid hx
      obtain ⟨e, f, hR, heB, d0, d1, d2, d3, hv1⟩ := (HV1.out.below hB).cells (j := k) (by rw [← Hm.out]; exact hlt) rfl
      subst hR
      obtain ⟨v, hv⟩ : ∃ v, v = vs.getD k default := ⟨_, rfl⟩
      rw [← hv] at d0 d1 d2 d3 hv1
      have Hv := Lib.hid hv
      have bad : ¬ fit1 x v → r = false := fun h => by
        rw [Hr.out]
        exact tr_no fun q => h (by
          have := ((fits_get _ _).1 q.2).2 k (by rw [← Hl.out]; exact hlt)
          rw [Hx.out, Hv.out]; exact this)
      clear hx hv
      obtain ⟨xs, xk, xb⟩ := x
      obtain ⟨k1, i1, t1, b1⟩ := v
      simp only [] at c0 c1 c2 d0 d1 d2 d3 hv1 bad
      have hbx := (Below.refl wr.heap.size wr).alloc (Nat.le_refl _) (.cells #[.string xs, .int .i64 xk, .bool xb] 71)
      have x1 : Cb (wr.alloc (.cells #[.string xs, .int .i64 xk, .bool xb] 71)) wr.heap.size xs xk xb := Wd.Bx.new wr _ _
      have hgz : wr.heap.size < (wr.alloc (.cells #[.string xs, .int .i64 xk, .bool xb] 71)).heap.size := by simp
      have Cv := Lib.hid fun w => Vc.may_any k1 i1 t1 b1 w
      have Cn := Lib.hid fun w => isNull_any xs xk xb k1 i1 t1 b1 w
      have HM1 := Lib.hid (Vc.mayB_iff k1 i1 t1 b1)
      have Hfi := Lib.hid fun h => fit1_iff ⟨xs, xk, xb⟩ ⟨k1, i1, t1, b1⟩ (ok_of h hv1)
      go_wp2_with fail
      generalize wr.alloc (.cells #[.string xs, .int .i64 xk, .bool xb] 71) = w2 at *
      have heB2 : e < w2.heap.size := Nat.lt_of_lt_of_le heB hbx.size
      obtain ⟨z0, z1, z2⟩ := three x1
      have z3 : w2.cell? ⟨e, f + k * 4, none⟩ = some (.int .i64 k1) := (hbx.cell (p := ⟨e, f + k * 4, none⟩) heB).trans d0
      have z4 : w2.cell? ⟨e, f + k * 4 + 1, none⟩ = some (.int .i64 i1) := (hbx.cell (p := ⟨e, f + k * 4 + 1, none⟩) heB).trans d1
      have z5 : w2.cell? ⟨e, f + k * 4 + 2, none⟩ = some (.string t1) := (hbx.cell (p := ⟨e, f + k * 4 + 2, none⟩) heB).trans d2
      have z6 : w2.cell? ⟨e, f + k * 4 + 3, none⟩ = some (.bool b1) := (hbx.cell (p := ⟨e, f + k * 4 + 3, none⟩) heB).trans d3
      have y6 : w2.drew.cell? ⟨e, f + k * 4, none⟩ = some (.int .i64 k1) ∧ w2.drew.cell? ⟨e, f + k * 4 + 1, none⟩ = some (.int .i64 i1) ∧ w2.drew.cell? ⟨e, f + k * 4 + 2, none⟩ = some (.string t1) ∧ w2.drew.cell? ⟨e, f + k * 4 + 3, none⟩ = some (.bool b1) ∧
        w2.drew.cell? ⟨wr.heap.size, 0, none⟩ = some (.string xs) ∧ w2.drew.cell? ⟨wr.heap.size, 1, none⟩ = some (.int .i64 xk) ∧ w2.drew.cell? ⟨wr.heap.size, 2, none⟩ = some (.bool xb) := ⟨z3, z4, z5, z6, z0, z1, z2⟩
      clear x1 c0 c1 c2 d0 d1 d2 d3
      have hM : Vc.mayB k1 i1 t1 b1 = true ∨ Vc.mayB k1 i1 t1 b1 = false := by cases Vc.mayB k1 i1 t1 b1 <;> simp
      rcases hM with hM | hM
      · rw [hM] at Cv HM1
        have Hok := Lib.hid (Hfi.out (HM1.out.1 rfl))
        by_cases hk1 : k1 = xk
        · have qk : (k1 != xk) = false := by simpa using hk1
          have Hfit := Lib.hid (Hok.out.2 fun h => h.1 hk1)
          clear hk1 hM bad
          have hH := y6
          refine wp_region_any (by kernel_rfl) ?_
          refine wpAny_of_held (S := fun w' => w'.cell? ⟨e, f + k * 4, none⟩ = some (.int .i64 k1) ∧ w'.cell? ⟨e, f + k * 4 + 1, none⟩ = some (.int .i64 i1) ∧ w'.cell? ⟨e, f + k * 4 + 2, none⟩ = some (.string t1) ∧ w'.cell? ⟨e, f + k * 4 + 3, none⟩ = some (.bool b1) ∧ w'.cell? ⟨wr.heap.size, 0, none⟩ = some (.string xs) ∧ w'.cell? ⟨wr.heap.size, 1, none⟩ = some (.int .i64 xk) ∧ w'.cell? ⟨wr.heap.size, 2, none⟩ = some (.bool xb)) _ _ _ _ ?_
          change wpAnyH _ _ _ _ _ 25 (Array.replicate 25 false) _ w2.drew
          refine Rt.take (i := 0) (d := 26) (v := (.slice (some ⟨e, f, none⟩) m d)) rfl rfl (by kernel_rfl) (by kernel_rfl) (by kernel_rfl) (fun _ _ _ h => h) (Or.inl ⟨by rfl, ?_⟩) hH ?_
          · rintro w' ⟨s0, s1, s2, s3, s4, s5, s6⟩
            go_simp
          (try simp only [List.setIfInBounds_toArray, List.set_cons_zero, List.set_cons_succ])
          refine Rt.take (i := 1) (d := 27) (v := (.int .i64 k)) rfl rfl (by kernel_rfl) (by kernel_rfl) (by kernel_rfl) (fun _ _ _ h => h) (Or.inl ⟨by rfl, ?_⟩) hH ?_
          · rintro w' ⟨s0, s1, s2, s3, s4, s5, s6⟩
            go_simp
          (try simp only [List.setIfInBounds_toArray, List.set_cons_zero, List.set_cons_succ])
          refine Rt.take (i := 2) (d := 28) (v := (.pointer (some ⟨e, f + k * 4, none⟩))) rfl rfl (by kernel_rfl) (by kernel_rfl) (by kernel_rfl) (fun _ _ _ h => h) (Or.inl ⟨by rfl, ?_⟩) hH ?_
          · rintro w' ⟨s0, s1, s2, s3, s4, s5, s6⟩
            go_simp
          (try simp only [List.setIfInBounds_toArray, List.set_cons_zero, List.set_cons_succ])
          refine Rt.take (i := 3) (d := 29) (v := (.agg #[.int .i64 k1, .int .i64 i1, .string t1, .bool b1])) rfl rfl (by kernel_rfl) (by kernel_rfl) (by kernel_rfl) (fun _ _ _ h => h) (Or.inl ⟨by rfl, ?_⟩) hH ?_
          · rintro w' ⟨s0, s1, s2, s3, s4, s5, s6⟩
            go_simp
          (try simp only [List.setIfInBounds_toArray, List.set_cons_zero, List.set_cons_succ])
          refine wpAnyH_ready (rs := [4]) (by kernel_rfl) (by simp) ?_
          refine AllReadyH.cons rfl (fun K hK => ?_) AllReadyH.nil
          go_simp
          refine (Cv.out w2.drew).mono ?_
          rintro q w7 ⟨rfl, hB7⟩
          have hb7 : Below w2.heap.size w2 w7 := Wd.of_drew hB7
          clear hH
          have hH := and7 ⟨z3, z4, z5, z6, z0, z1, z2⟩ hb7 heB2 hgz
          refine hK.out _ _ hH (fun _ => ?_)
          clear hK K
          (try simp only [Act.put, List.setIfInBounds_toArray, List.set_cons_zero, List.set_cons_succ])
          refine Rt.take (i := 5) (d := 31) (v := .bool false) rfl rfl (by kernel_rfl) (by kernel_rfl) (by kernel_rfl) (fun _ _ _ h => h) (Or.inl ⟨by rfl, ?_⟩) hH ?_
          · rintro w' ⟨s0, s1, s2, s3, s4, s5, s6⟩
            go_simp
          (try simp only [List.setIfInBounds_toArray, List.set_cons_zero, List.set_cons_succ])
          refine Rt.take (i := 6) (d := 32) (v := .bool false) rfl rfl (by kernel_rfl) (by kernel_rfl) (by kernel_rfl) (fun _ _ _ h => h) (Or.inl ⟨by rfl, ?_⟩) hH ?_
          · rintro w' ⟨s0, s1, s2, s3, s4, s5, s6⟩
            go_simp
          (try simp only [List.setIfInBounds_toArray, List.set_cons_zero, List.set_cons_succ])
          refine Rt.take (i := 7) (d := 33) (v := (.slice (some ⟨e, f, none⟩) m d)) rfl rfl (by kernel_rfl) (by kernel_rfl) (by kernel_rfl) (fun _ _ _ h => h) (Or.inl ⟨by rfl, ?_⟩) hH ?_
          · rintro w' ⟨s0, s1, s2, s3, s4, s5, s6⟩
            go_simp
          (try simp only [List.setIfInBounds_toArray, List.set_cons_zero, List.set_cons_succ])
          refine Rt.take (i := 8) (d := 34) (v := (.int .i64 k)) rfl rfl (by kernel_rfl) (by kernel_rfl) (by kernel_rfl) (fun _ _ _ h => h) (Or.inl ⟨by rfl, ?_⟩) hH ?_
          · rintro w' ⟨s0, s1, s2, s3, s4, s5, s6⟩
            go_simp
          (try simp only [List.setIfInBounds_toArray, List.set_cons_zero, List.set_cons_succ])
          refine Rt.take (i := 9) (d := 35) (v := (.pointer (some ⟨e, f + k * 4, none⟩))) rfl rfl (by kernel_rfl) (by kernel_rfl) (by kernel_rfl) (fun _ _ _ h => h) (Or.inl ⟨by rfl, ?_⟩) hH ?_
          · rintro w' ⟨s0, s1, s2, s3, s4, s5, s6⟩
            go_simp
          (try simp only [List.setIfInBounds_toArray, List.set_cons_zero, List.set_cons_succ])
          refine Rt.take (i := 10) (d := 36) (v := (.pointer (some ⟨e, f + k * 4, none⟩))) rfl rfl (by kernel_rfl) (by kernel_rfl) (by kernel_rfl) (fun _ _ _ h => h) (Or.inl ⟨by rfl, ?_⟩) hH ?_
          · rintro w' ⟨s0, s1, s2, s3, s4, s5, s6⟩
            go_simp
          (try simp only [List.setIfInBounds_toArray, List.set_cons_zero, List.set_cons_succ])
          refine Rt.take (i := 11) (d := 37) (v := .int .i64 k1) rfl rfl (by kernel_rfl) (by kernel_rfl) (by kernel_rfl) (fun _ _ _ h => h) (Or.inl ⟨by rfl, ?_⟩) hH ?_
          · rintro w' ⟨s0, s1, s2, s3, s4, s5, s6⟩
            go_simp
          (try simp only [List.setIfInBounds_toArray, List.set_cons_zero, List.set_cons_succ])
          refine Rt.take (i := 12) (d := 38) (v := (.pointer (some ⟨wr.heap.size, 1, none⟩))) rfl rfl (by kernel_rfl) (by kernel_rfl) (by kernel_rfl) (fun _ _ _ h => h) (Or.inl ⟨by rfl, ?_⟩) hH ?_
          · rintro w' ⟨s0, s1, s2, s3, s4, s5, s6⟩
            go_simp
          (try simp only [List.setIfInBounds_toArray, List.set_cons_zero, List.set_cons_succ])
          refine Rt.take (i := 13) (d := 39) (v := .int .i64 xk) rfl rfl (by kernel_rfl) (by kernel_rfl) (by kernel_rfl) (fun _ _ _ h => h) (Or.inl ⟨by rfl, ?_⟩) hH ?_
          · rintro w' ⟨s0, s1, s2, s3, s4, s5, s6⟩
            go_simp
          (try simp only [List.setIfInBounds_toArray, List.set_cons_zero, List.set_cons_succ])
          refine Rt.take (i := 14) (d := 40) (v := .bool false) rfl rfl (by kernel_rfl) (by kernel_rfl) (by kernel_rfl) (fun _ _ _ h => h) (Or.inl ⟨by rfl, ?_⟩) hH ?_
          · rintro w' ⟨s0, s1, s2, s3, s4, s5, s6⟩
            go_simp
          (try simp only [List.setIfInBounds_toArray, List.set_cons_zero, List.set_cons_succ])
          refine Rt.take (i := 15) (d := 41) (v := .bool false) rfl rfl (by kernel_rfl) (by kernel_rfl) (by kernel_rfl) (fun _ _ _ h => h) (Or.inl ⟨by rfl, ?_⟩) hH ?_
          · rintro w' ⟨s0, s1, s2, s3, s4, s5, s6⟩
            go_simp
          (try simp only [List.setIfInBounds_toArray, List.set_cons_zero, List.set_cons_succ])
          refine Rt.take (i := 16) (d := 42) (v := undef) rfl rfl (by kernel_rfl) (by kernel_rfl) (by kernel_rfl) (fun _ _ _ h => h) (Or.inr ⟨by rfl, rfl⟩) hH ?_
          (try simp only [List.setIfInBounds_toArray, List.set_cons_zero, List.set_cons_succ])
          refine Rt.take (i := 17) (d := 43) (v := undef) rfl rfl (by kernel_rfl) (by kernel_rfl) (by kernel_rfl) (fun _ _ _ h => h) (Or.inr ⟨by rfl, rfl⟩) hH ?_
          (try simp only [List.setIfInBounds_toArray, List.set_cons_zero, List.set_cons_succ])
          refine Rt.take (i := 18) (d := 44) (v := undef) rfl rfl (by kernel_rfl) (by kernel_rfl) (by kernel_rfl) (fun _ _ _ h => h) (Or.inr ⟨by rfl, rfl⟩) hH ?_
          (try simp only [List.setIfInBounds_toArray, List.set_cons_zero, List.set_cons_succ])
          refine Rt.take (i := 19) (d := 45) (v := undef) rfl rfl (by kernel_rfl) (by kernel_rfl) (by kernel_rfl) (fun _ _ _ h => h) (Or.inr ⟨by rfl, rfl⟩) hH ?_
          (try simp only [List.setIfInBounds_toArray, List.set_cons_zero, List.set_cons_succ])
          refine Rt.take (i := 20) (d := 46) (v := undef) rfl rfl (by kernel_rfl) (by kernel_rfl) (by kernel_rfl) (fun _ _ _ h => h) (Or.inr ⟨by rfl, rfl⟩) hH ?_
          (try simp only [List.setIfInBounds_toArray, List.set_cons_zero, List.set_cons_succ])
          refine Rt.take (i := 21) (d := 47) (v := undef) rfl rfl (by kernel_rfl) (by kernel_rfl) (by kernel_rfl) (fun _ _ _ h => h) (Or.inr ⟨by rfl, rfl⟩) hH ?_
          (try simp only [List.setIfInBounds_toArray, List.set_cons_zero, List.set_cons_succ])
          refine Rt.take (i := 22) (d := 48) (v := undef) rfl rfl (by kernel_rfl) (by kernel_rfl) (by kernel_rfl) (fun _ _ _ h => h) (Or.inr ⟨by rfl, rfl⟩) hH ?_
          (try simp only [List.setIfInBounds_toArray, List.set_cons_zero, List.set_cons_succ])
          refine Rt.take (i := 23) (d := 49) (v := .bool false) rfl rfl (by kernel_rfl) (by kernel_rfl) (by kernel_rfl) (fun _ _ _ h => h) (Or.inl ⟨by rfl, ?_⟩) hH ?_
          · rintro w' ⟨s0, s1, s2, s3, s4, s5, s6⟩
            go_simp
          (try simp only [List.setIfInBounds_toArray, List.set_cons_zero, List.set_cons_succ])
          refine Rt.take (i := 24) (d := 50) (v := .bool false) rfl rfl (by kernel_rfl) (by kernel_rfl) (by kernel_rfl) (fun _ _ _ h => h) (Or.inl ⟨by rfl, ?_⟩) hH ?_
          · rintro w' ⟨s0, s1, s2, s3, s4, s5, s6⟩
            go_simp
          (try simp only [List.setIfInBounds_toArray, List.set_cons_zero, List.set_cons_succ])
          refine wpAnyH_done (by kernel_rfl) ?_ _
          have hw2 := hbx.trans (hb7.mono hbx.size)
          go_wp2_with fail
          go_roundw
          case rel =>
            refine ⟨k + 1, by go_num, by omega, Lib.hid fun j hj => ?_, hB.trans (hw2.mono hZ)⟩
            by_cases hjk : j = k
            · rw [hjk, ← Hx.out, ← Hv.out]; exact Hfit.out
            · exact hf.out j (by omega)
          case measure => simp [intOf]; omega
        · have qk : (k1 != xk) = true := by simpa using hk1
          by_cases hnl : xb = true ∧ k1 = 0
          · have Hfit := Lib.hid (Hok.out.2 fun h => h.2 hnl)
            have qn : (xb && (k1 == 0)) = true := by simp [hnl.1, hnl.2]
            rw [qn] at Cn
            clear hk1 hM bad hnl qn
            have hH := y6
            refine wp_region_any (by kernel_rfl) ?_
            refine wpAny_of_held (S := fun w' => w'.cell? ⟨e, f + k * 4, none⟩ = some (.int .i64 k1) ∧ w'.cell? ⟨e, f + k * 4 + 1, none⟩ = some (.int .i64 i1) ∧ w'.cell? ⟨e, f + k * 4 + 2, none⟩ = some (.string t1) ∧ w'.cell? ⟨e, f + k * 4 + 3, none⟩ = some (.bool b1) ∧ w'.cell? ⟨wr.heap.size, 0, none⟩ = some (.string xs) ∧ w'.cell? ⟨wr.heap.size, 1, none⟩ = some (.int .i64 xk) ∧ w'.cell? ⟨wr.heap.size, 2, none⟩ = some (.bool xb)) _ _ _ _ ?_
            change wpAnyH _ _ _ _ _ 25 (Array.replicate 25 false) _ w2.drew
            refine Rt.take (i := 0) (d := 26) (v := (.slice (some ⟨e, f, none⟩) m d)) rfl rfl (by kernel_rfl) (by kernel_rfl) (by kernel_rfl) (fun _ _ _ h => h) (Or.inl ⟨by rfl, ?_⟩) hH ?_
            · rintro w' ⟨s0, s1, s2, s3, s4, s5, s6⟩
              go_simp
            (try simp only [List.setIfInBounds_toArray, List.set_cons_zero, List.set_cons_succ])
            refine Rt.take (i := 1) (d := 27) (v := (.int .i64 k)) rfl rfl (by kernel_rfl) (by kernel_rfl) (by kernel_rfl) (fun _ _ _ h => h) (Or.inl ⟨by rfl, ?_⟩) hH ?_
            · rintro w' ⟨s0, s1, s2, s3, s4, s5, s6⟩
              go_simp
            (try simp only [List.setIfInBounds_toArray, List.set_cons_zero, List.set_cons_succ])
            refine Rt.take (i := 2) (d := 28) (v := (.pointer (some ⟨e, f + k * 4, none⟩))) rfl rfl (by kernel_rfl) (by kernel_rfl) (by kernel_rfl) (fun _ _ _ h => h) (Or.inl ⟨by rfl, ?_⟩) hH ?_
            · rintro w' ⟨s0, s1, s2, s3, s4, s5, s6⟩
              go_simp
            (try simp only [List.setIfInBounds_toArray, List.set_cons_zero, List.set_cons_succ])
            refine Rt.take (i := 3) (d := 29) (v := (.agg #[.int .i64 k1, .int .i64 i1, .string t1, .bool b1])) rfl rfl (by kernel_rfl) (by kernel_rfl) (by kernel_rfl) (fun _ _ _ h => h) (Or.inl ⟨by rfl, ?_⟩) hH ?_
            · rintro w' ⟨s0, s1, s2, s3, s4, s5, s6⟩
              go_simp
            (try simp only [List.setIfInBounds_toArray, List.set_cons_zero, List.set_cons_succ])
            refine wpAnyH_ready (rs := [4]) (by kernel_rfl) (by simp) ?_
            refine AllReadyH.cons rfl (fun K hK => ?_) AllReadyH.nil
            go_simp
            refine (Cv.out w2.drew).mono ?_
            rintro q w7 ⟨rfl, hB7⟩
            have hb7 : Below w2.heap.size w2 w7 := Wd.of_drew hB7
            clear hH
            have hH := and7 ⟨z3, z4, z5, z6, z0, z1, z2⟩ hb7 heB2 hgz
            refine hK.out _ _ hH (fun _ => ?_)
            clear hK K
            (try simp only [Act.put, List.setIfInBounds_toArray, List.set_cons_zero, List.set_cons_succ])
            refine Rt.take (i := 5) (d := 31) (v := .bool false) rfl rfl (by kernel_rfl) (by kernel_rfl) (by kernel_rfl) (fun _ _ _ h => h) (Or.inl ⟨by rfl, ?_⟩) hH ?_
            · rintro w' ⟨s0, s1, s2, s3, s4, s5, s6⟩
              go_simp
            (try simp only [List.setIfInBounds_toArray, List.set_cons_zero, List.set_cons_succ])
            refine Rt.take (i := 6) (d := 32) (v := .bool false) rfl rfl (by kernel_rfl) (by kernel_rfl) (by kernel_rfl) (fun _ _ _ h => h) (Or.inl ⟨by rfl, ?_⟩) hH ?_
            · rintro w' ⟨s0, s1, s2, s3, s4, s5, s6⟩
              go_simp
            (try simp only [List.setIfInBounds_toArray, List.set_cons_zero, List.set_cons_succ])
            refine Rt.take (i := 7) (d := 33) (v := (.slice (some ⟨e, f, none⟩) m d)) rfl rfl (by kernel_rfl) (by kernel_rfl) (by kernel_rfl) (fun _ _ _ h => h) (Or.inl ⟨by rfl, ?_⟩) hH ?_
            · rintro w' ⟨s0, s1, s2, s3, s4, s5, s6⟩
              go_simp
            (try simp only [List.setIfInBounds_toArray, List.set_cons_zero, List.set_cons_succ])
            refine Rt.take (i := 8) (d := 34) (v := (.int .i64 k)) rfl rfl (by kernel_rfl) (by kernel_rfl) (by kernel_rfl) (fun _ _ _ h => h) (Or.inl ⟨by rfl, ?_⟩) hH ?_
            · rintro w' ⟨s0, s1, s2, s3, s4, s5, s6⟩
              go_simp
            (try simp only [List.setIfInBounds_toArray, List.set_cons_zero, List.set_cons_succ])
            refine Rt.take (i := 9) (d := 35) (v := (.pointer (some ⟨e, f + k * 4, none⟩))) rfl rfl (by kernel_rfl) (by kernel_rfl) (by kernel_rfl) (fun _ _ _ h => h) (Or.inl ⟨by rfl, ?_⟩) hH ?_
            · rintro w' ⟨s0, s1, s2, s3, s4, s5, s6⟩
              go_simp
            (try simp only [List.setIfInBounds_toArray, List.set_cons_zero, List.set_cons_succ])
            refine Rt.take (i := 10) (d := 36) (v := (.pointer (some ⟨e, f + k * 4, none⟩))) rfl rfl (by kernel_rfl) (by kernel_rfl) (by kernel_rfl) (fun _ _ _ h => h) (Or.inl ⟨by rfl, ?_⟩) hH ?_
            · rintro w' ⟨s0, s1, s2, s3, s4, s5, s6⟩
              go_simp
            (try simp only [List.setIfInBounds_toArray, List.set_cons_zero, List.set_cons_succ])
            refine Rt.take (i := 11) (d := 37) (v := .int .i64 k1) rfl rfl (by kernel_rfl) (by kernel_rfl) (by kernel_rfl) (fun _ _ _ h => h) (Or.inl ⟨by rfl, ?_⟩) hH ?_
            · rintro w' ⟨s0, s1, s2, s3, s4, s5, s6⟩
              go_simp
            (try simp only [List.setIfInBounds_toArray, List.set_cons_zero, List.set_cons_succ])
            refine Rt.take (i := 12) (d := 38) (v := (.pointer (some ⟨wr.heap.size, 1, none⟩))) rfl rfl (by kernel_rfl) (by kernel_rfl) (by kernel_rfl) (fun _ _ _ h => h) (Or.inl ⟨by rfl, ?_⟩) hH ?_
            · rintro w' ⟨s0, s1, s2, s3, s4, s5, s6⟩
              go_simp
            (try simp only [List.setIfInBounds_toArray, List.set_cons_zero, List.set_cons_succ])
            refine Rt.take (i := 13) (d := 39) (v := .int .i64 xk) rfl rfl (by kernel_rfl) (by kernel_rfl) (by kernel_rfl) (fun _ _ _ h => h) (Or.inl ⟨by rfl, ?_⟩) hH ?_
            · rintro w' ⟨s0, s1, s2, s3, s4, s5, s6⟩
              go_simp
            (try simp only [List.setIfInBounds_toArray, List.set_cons_zero, List.set_cons_succ])
            refine Rt.take (i := 14) (d := 40) (v := .bool true) rfl rfl (by kernel_rfl) (by kernel_rfl) (by kernel_rfl) (fun _ _ _ h => h) (Or.inl ⟨by rfl, ?_⟩) hH ?_
            · rintro w' ⟨s0, s1, s2, s3, s4, s5, s6⟩
              go_simp
            (try simp only [List.setIfInBounds_toArray, List.set_cons_zero, List.set_cons_succ])
            refine Rt.take (i := 15) (d := 41) (v := .bool true) rfl rfl (by kernel_rfl) (by kernel_rfl) (by kernel_rfl) (fun _ _ _ h => h) (Or.inl ⟨by rfl, ?_⟩) hH ?_
            · rintro w' ⟨s0, s1, s2, s3, s4, s5, s6⟩
              go_simp
            (try simp only [List.setIfInBounds_toArray, List.set_cons_zero, List.set_cons_succ])
            refine Rt.take (i := 16) (d := 42) (v := (.agg #[.string xs, .int .i64 xk, .bool xb])) rfl rfl (by kernel_rfl) (by kernel_rfl) (by kernel_rfl) (fun _ _ _ h => h) (Or.inl ⟨by rfl, ?_⟩) hH ?_
            · rintro w' ⟨s0, s1, s2, s3, s4, s5, s6⟩
              go_simp
            (try simp only [List.setIfInBounds_toArray, List.set_cons_zero, List.set_cons_succ])
            refine Rt.take (i := 17) (d := 43) (v := (.slice (some ⟨e, f, none⟩) m d)) rfl rfl (by kernel_rfl) (by kernel_rfl) (by kernel_rfl) (fun _ _ _ h => h) (Or.inl ⟨by rfl, ?_⟩) hH ?_
            · rintro w' ⟨s0, s1, s2, s3, s4, s5, s6⟩
              go_simp
            (try simp only [List.setIfInBounds_toArray, List.set_cons_zero, List.set_cons_succ])
            refine Rt.take (i := 18) (d := 44) (v := (.int .i64 k)) rfl rfl (by kernel_rfl) (by kernel_rfl) (by kernel_rfl) (fun _ _ _ h => h) (Or.inl ⟨by rfl, ?_⟩) hH ?_
            · rintro w' ⟨s0, s1, s2, s3, s4, s5, s6⟩
              go_simp
            (try simp only [List.setIfInBounds_toArray, List.set_cons_zero, List.set_cons_succ])
            refine Rt.take (i := 19) (d := 45) (v := (.pointer (some ⟨e, f + k * 4, none⟩))) rfl rfl (by kernel_rfl) (by kernel_rfl) (by kernel_rfl) (fun _ _ _ h => h) (Or.inl ⟨by rfl, ?_⟩) hH ?_
            · rintro w' ⟨s0, s1, s2, s3, s4, s5, s6⟩
              go_simp
            (try simp only [List.setIfInBounds_toArray, List.set_cons_zero, List.set_cons_succ])
            refine Rt.take (i := 20) (d := 46) (v := (.agg #[.int .i64 k1, .int .i64 i1, .string t1, .bool b1])) rfl rfl (by kernel_rfl) (by kernel_rfl) (by kernel_rfl) (fun _ _ _ h => h) (Or.inl ⟨by rfl, ?_⟩) hH ?_
            · rintro w' ⟨s0, s1, s2, s3, s4, s5, s6⟩
              go_simp
            (try simp only [List.setIfInBounds_toArray, List.set_cons_zero, List.set_cons_succ])
            refine wpAnyH_ready (rs := [21]) (by kernel_rfl) (by simp) ?_
            refine AllReadyH.cons rfl (fun K hK => ?_) AllReadyH.nil
            go_simp
            refine (Cn.out w7).mono ?_
            rintro q w8 ⟨rfl, hB8⟩
            have hb8 : Below w2.heap.size w2 w8 := hb7.trans (hB8.mono hb7.size)
            clear hH
            have hH := and7 ⟨z3, z4, z5, z6, z0, z1, z2⟩ hb8 heB2 hgz
            refine hK.out _ _ hH (fun _ => ?_)
            clear hK K
            (try simp only [Act.put, List.setIfInBounds_toArray, List.set_cons_zero, List.set_cons_succ])
            refine Rt.take (i := 22) (d := 48) (v := .bool false) rfl rfl (by kernel_rfl) (by kernel_rfl) (by kernel_rfl) (fun _ _ _ h => h) (Or.inl ⟨by rfl, ?_⟩) hH ?_
            · rintro w' ⟨s0, s1, s2, s3, s4, s5, s6⟩
              go_simp
            (try simp only [List.setIfInBounds_toArray, List.set_cons_zero, List.set_cons_succ])
            refine Rt.take (i := 23) (d := 49) (v := .bool false) rfl rfl (by kernel_rfl) (by kernel_rfl) (by kernel_rfl) (fun _ _ _ h => h) (Or.inl ⟨by rfl, ?_⟩) hH ?_
            · rintro w' ⟨s0, s1, s2, s3, s4, s5, s6⟩
              go_simp
            (try simp only [List.setIfInBounds_toArray, List.set_cons_zero, List.set_cons_succ])
            refine Rt.take (i := 24) (d := 50) (v := .bool false) rfl rfl (by kernel_rfl) (by kernel_rfl) (by kernel_rfl) (fun _ _ _ h => h) (Or.inl ⟨by rfl, ?_⟩) hH ?_
            · rintro w' ⟨s0, s1, s2, s3, s4, s5, s6⟩
              go_simp
            (try simp only [List.setIfInBounds_toArray, List.set_cons_zero, List.set_cons_succ])
            refine wpAnyH_done (by kernel_rfl) ?_ _
            have hw2 := hbx.trans (hb8.mono hbx.size)
            go_wp2_with fail
            go_roundw
            case rel =>
              refine ⟨k + 1, by go_num, by omega, Lib.hid fun j hj => ?_, hB.trans (hw2.mono hZ)⟩
              by_cases hjk : j = k
              · rw [hjk, ← Hx.out, ← Hv.out]; exact Hfit.out
              · exact hf.out j (by omega)
            case measure => simp [intOf]; omega
          · have He := Lib.hid (bad fun h => (Hok.out.1 h) ⟨hk1, hnl⟩)
            have qn : (xb && (k1 == 0)) = false := by
              cases xb
              · rfl
              · simp at hnl ⊢
                exact hnl
            rw [qn] at Cn
            clear hk1 hM bad hnl qn
            have hH := y6
            refine wp_region_any (by kernel_rfl) ?_
            refine wpAny_of_held (S := fun w' => w'.cell? ⟨e, f + k * 4, none⟩ = some (.int .i64 k1) ∧ w'.cell? ⟨e, f + k * 4 + 1, none⟩ = some (.int .i64 i1) ∧ w'.cell? ⟨e, f + k * 4 + 2, none⟩ = some (.string t1) ∧ w'.cell? ⟨e, f + k * 4 + 3, none⟩ = some (.bool b1) ∧ w'.cell? ⟨wr.heap.size, 0, none⟩ = some (.string xs) ∧ w'.cell? ⟨wr.heap.size, 1, none⟩ = some (.int .i64 xk) ∧ w'.cell? ⟨wr.heap.size, 2, none⟩ = some (.bool xb)) _ _ _ _ ?_
            change wpAnyH _ _ _ _ _ 25 (Array.replicate 25 false) _ w2.drew
            refine Rt.take (i := 0) (d := 26) (v := (.slice (some ⟨e, f, none⟩) m d)) rfl rfl (by kernel_rfl) (by kernel_rfl) (by kernel_rfl) (fun _ _ _ h => h) (Or.inl ⟨by rfl, ?_⟩) hH ?_
            · rintro w' ⟨s0, s1, s2, s3, s4, s5, s6⟩
              go_simp
            (try simp only [List.setIfInBounds_toArray, List.set_cons_zero, List.set_cons_succ])
            refine Rt.take (i := 1) (d := 27) (v := (.int .i64 k)) rfl rfl (by kernel_rfl) (by kernel_rfl) (by kernel_rfl) (fun _ _ _ h => h) (Or.inl ⟨by rfl, ?_⟩) hH ?_
            · rintro w' ⟨s0, s1, s2, s3, s4, s5, s6⟩
              go_simp
            (try simp only [List.setIfInBounds_toArray, List.set_cons_zero, List.set_cons_succ])
            refine Rt.take (i := 2) (d := 28) (v := (.pointer (some ⟨e, f + k * 4, none⟩))) rfl rfl (by kernel_rfl) (by kernel_rfl) (by kernel_rfl) (fun _ _ _ h => h) (Or.inl ⟨by rfl, ?_⟩) hH ?_
            · rintro w' ⟨s0, s1, s2, s3, s4, s5, s6⟩
              go_simp
            (try simp only [List.setIfInBounds_toArray, List.set_cons_zero, List.set_cons_succ])
            refine Rt.take (i := 3) (d := 29) (v := (.agg #[.int .i64 k1, .int .i64 i1, .string t1, .bool b1])) rfl rfl (by kernel_rfl) (by kernel_rfl) (by kernel_rfl) (fun _ _ _ h => h) (Or.inl ⟨by rfl, ?_⟩) hH ?_
            · rintro w' ⟨s0, s1, s2, s3, s4, s5, s6⟩
              go_simp
            (try simp only [List.setIfInBounds_toArray, List.set_cons_zero, List.set_cons_succ])
            refine wpAnyH_ready (rs := [4]) (by kernel_rfl) (by simp) ?_
            refine AllReadyH.cons rfl (fun K hK => ?_) AllReadyH.nil
            go_simp
            refine (Cv.out w2.drew).mono ?_
            rintro q w7 ⟨rfl, hB7⟩
            have hb7 : Below w2.heap.size w2 w7 := Wd.of_drew hB7
            clear hH
            have hH := and7 ⟨z3, z4, z5, z6, z0, z1, z2⟩ hb7 heB2 hgz
            refine hK.out _ _ hH (fun _ => ?_)
            clear hK K
            (try simp only [Act.put, List.setIfInBounds_toArray, List.set_cons_zero, List.set_cons_succ])
            refine Rt.take (i := 5) (d := 31) (v := .bool false) rfl rfl (by kernel_rfl) (by kernel_rfl) (by kernel_rfl) (fun _ _ _ h => h) (Or.inl ⟨by rfl, ?_⟩) hH ?_
            · rintro w' ⟨s0, s1, s2, s3, s4, s5, s6⟩
              go_simp
            (try simp only [List.setIfInBounds_toArray, List.set_cons_zero, List.set_cons_succ])
            refine Rt.take (i := 6) (d := 32) (v := .bool false) rfl rfl (by kernel_rfl) (by kernel_rfl) (by kernel_rfl) (fun _ _ _ h => h) (Or.inl ⟨by rfl, ?_⟩) hH ?_
            · rintro w' ⟨s0, s1, s2, s3, s4, s5, s6⟩
              go_simp
            (try simp only [List.setIfInBounds_toArray, List.set_cons_zero, List.set_cons_succ])
            refine Rt.take (i := 7) (d := 33) (v := (.slice (some ⟨e, f, none⟩) m d)) rfl rfl (by kernel_rfl) (by kernel_rfl) (by kernel_rfl) (fun _ _ _ h => h) (Or.inl ⟨by rfl, ?_⟩) hH ?_
            · rintro w' ⟨s0, s1, s2, s3, s4, s5, s6⟩
              go_simp
            (try simp only [List.setIfInBounds_toArray, List.set_cons_zero, List.set_cons_succ])
            refine Rt.take (i := 8) (d := 34) (v := (.int .i64 k)) rfl rfl (by kernel_rfl) (by kernel_rfl) (by kernel_rfl) (fun _ _ _ h => h) (Or.inl ⟨by rfl, ?_⟩) hH ?_
            · rintro w' ⟨s0, s1, s2, s3, s4, s5, s6⟩
              go_simp
            (try simp only [List.setIfInBounds_toArray, List.set_cons_zero, List.set_cons_succ])
            refine Rt.take (i := 9) (d := 35) (v := (.pointer (some ⟨e, f + k * 4, none⟩))) rfl rfl (by kernel_rfl) (by kernel_rfl) (by kernel_rfl) (fun _ _ _ h => h) (Or.inl ⟨by rfl, ?_⟩) hH ?_
            · rintro w' ⟨s0, s1, s2, s3, s4, s5, s6⟩
              go_simp
            (try simp only [List.setIfInBounds_toArray, List.set_cons_zero, List.set_cons_succ])
            refine Rt.take (i := 10) (d := 36) (v := (.pointer (some ⟨e, f + k * 4, none⟩))) rfl rfl (by kernel_rfl) (by kernel_rfl) (by kernel_rfl) (fun _ _ _ h => h) (Or.inl ⟨by rfl, ?_⟩) hH ?_
            · rintro w' ⟨s0, s1, s2, s3, s4, s5, s6⟩
              go_simp
            (try simp only [List.setIfInBounds_toArray, List.set_cons_zero, List.set_cons_succ])
            refine Rt.take (i := 11) (d := 37) (v := .int .i64 k1) rfl rfl (by kernel_rfl) (by kernel_rfl) (by kernel_rfl) (fun _ _ _ h => h) (Or.inl ⟨by rfl, ?_⟩) hH ?_
            · rintro w' ⟨s0, s1, s2, s3, s4, s5, s6⟩
              go_simp
            (try simp only [List.setIfInBounds_toArray, List.set_cons_zero, List.set_cons_succ])
            refine Rt.take (i := 12) (d := 38) (v := (.pointer (some ⟨wr.heap.size, 1, none⟩))) rfl rfl (by kernel_rfl) (by kernel_rfl) (by kernel_rfl) (fun _ _ _ h => h) (Or.inl ⟨by rfl, ?_⟩) hH ?_
            · rintro w' ⟨s0, s1, s2, s3, s4, s5, s6⟩
              go_simp
            (try simp only [List.setIfInBounds_toArray, List.set_cons_zero, List.set_cons_succ])
            refine Rt.take (i := 13) (d := 39) (v := .int .i64 xk) rfl rfl (by kernel_rfl) (by kernel_rfl) (by kernel_rfl) (fun _ _ _ h => h) (Or.inl ⟨by rfl, ?_⟩) hH ?_
            · rintro w' ⟨s0, s1, s2, s3, s4, s5, s6⟩
              go_simp
            (try simp only [List.setIfInBounds_toArray, List.set_cons_zero, List.set_cons_succ])
            refine Rt.take (i := 14) (d := 40) (v := .bool true) rfl rfl (by kernel_rfl) (by kernel_rfl) (by kernel_rfl) (fun _ _ _ h => h) (Or.inl ⟨by rfl, ?_⟩) hH ?_
            · rintro w' ⟨s0, s1, s2, s3, s4, s5, s6⟩
              go_simp
            (try simp only [List.setIfInBounds_toArray, List.set_cons_zero, List.set_cons_succ])
            refine Rt.take (i := 15) (d := 41) (v := .bool true) rfl rfl (by kernel_rfl) (by kernel_rfl) (by kernel_rfl) (fun _ _ _ h => h) (Or.inl ⟨by rfl, ?_⟩) hH ?_
            · rintro w' ⟨s0, s1, s2, s3, s4, s5, s6⟩
              go_simp
            (try simp only [List.setIfInBounds_toArray, List.set_cons_zero, List.set_cons_succ])
            refine Rt.take (i := 16) (d := 42) (v := (.agg #[.string xs, .int .i64 xk, .bool xb])) rfl rfl (by kernel_rfl) (by kernel_rfl) (by kernel_rfl) (fun _ _ _ h => h) (Or.inl ⟨by rfl, ?_⟩) hH ?_
            · rintro w' ⟨s0, s1, s2, s3, s4, s5, s6⟩
              go_simp
            (try simp only [List.setIfInBounds_toArray, List.set_cons_zero, List.set_cons_succ])
            refine Rt.take (i := 17) (d := 43) (v := (.slice (some ⟨e, f, none⟩) m d)) rfl rfl (by kernel_rfl) (by kernel_rfl) (by kernel_rfl) (fun _ _ _ h => h) (Or.inl ⟨by rfl, ?_⟩) hH ?_
            · rintro w' ⟨s0, s1, s2, s3, s4, s5, s6⟩
              go_simp
            (try simp only [List.setIfInBounds_toArray, List.set_cons_zero, List.set_cons_succ])
            refine Rt.take (i := 18) (d := 44) (v := (.int .i64 k)) rfl rfl (by kernel_rfl) (by kernel_rfl) (by kernel_rfl) (fun _ _ _ h => h) (Or.inl ⟨by rfl, ?_⟩) hH ?_
            · rintro w' ⟨s0, s1, s2, s3, s4, s5, s6⟩
              go_simp
            (try simp only [List.setIfInBounds_toArray, List.set_cons_zero, List.set_cons_succ])
            refine Rt.take (i := 19) (d := 45) (v := (.pointer (some ⟨e, f + k * 4, none⟩))) rfl rfl (by kernel_rfl) (by kernel_rfl) (by kernel_rfl) (fun _ _ _ h => h) (Or.inl ⟨by rfl, ?_⟩) hH ?_
            · rintro w' ⟨s0, s1, s2, s3, s4, s5, s6⟩
              go_simp
            (try simp only [List.setIfInBounds_toArray, List.set_cons_zero, List.set_cons_succ])
            refine Rt.take (i := 20) (d := 46) (v := (.agg #[.int .i64 k1, .int .i64 i1, .string t1, .bool b1])) rfl rfl (by kernel_rfl) (by kernel_rfl) (by kernel_rfl) (fun _ _ _ h => h) (Or.inl ⟨by rfl, ?_⟩) hH ?_
            · rintro w' ⟨s0, s1, s2, s3, s4, s5, s6⟩
              go_simp
            (try simp only [List.setIfInBounds_toArray, List.set_cons_zero, List.set_cons_succ])
            refine wpAnyH_ready (rs := [21]) (by kernel_rfl) (by simp) ?_
            refine AllReadyH.cons rfl (fun K hK => ?_) AllReadyH.nil
            go_simp
            refine (Cn.out w7).mono ?_
            rintro q w8 ⟨rfl, hB8⟩
            have hb8 : Below w2.heap.size w2 w8 := hb7.trans (hB8.mono hb7.size)
            clear hH
            have hH := and7 ⟨z3, z4, z5, z6, z0, z1, z2⟩ hb8 heB2 hgz
            refine hK.out _ _ hH (fun _ => ?_)
            clear hK K
            (try simp only [Act.put, List.setIfInBounds_toArray, List.set_cons_zero, List.set_cons_succ])
            refine Rt.take (i := 22) (d := 48) (v := .bool true) rfl rfl (by kernel_rfl) (by kernel_rfl) (by kernel_rfl) (fun _ _ _ h => h) (Or.inl ⟨by rfl, ?_⟩) hH ?_
            · rintro w' ⟨s0, s1, s2, s3, s4, s5, s6⟩
              go_simp
            (try simp only [List.setIfInBounds_toArray, List.set_cons_zero, List.set_cons_succ])
            refine Rt.take (i := 23) (d := 49) (v := .bool true) rfl rfl (by kernel_rfl) (by kernel_rfl) (by kernel_rfl) (fun _ _ _ h => h) (Or.inl ⟨by rfl, ?_⟩) hH ?_
            · rintro w' ⟨s0, s1, s2, s3, s4, s5, s6⟩
              go_simp
            (try simp only [List.setIfInBounds_toArray, List.set_cons_zero, List.set_cons_succ])
            refine Rt.take (i := 24) (d := 50) (v := .bool true) rfl rfl (by kernel_rfl) (by kernel_rfl) (by kernel_rfl) (fun _ _ _ h => h) (Or.inl ⟨by rfl, ?_⟩) hH ?_
            · rintro w' ⟨s0, s1, s2, s3, s4, s5, s6⟩
              go_simp
            (try simp only [List.setIfInBounds_toArray, List.set_cons_zero, List.set_cons_succ])
            refine wpAnyH_done (by kernel_rfl) ?_ _
            have hw2 := hbx.trans (hb8.mono hbx.size)
            go_wp2_with fail
            go_ret
            exact ⟨by rw [He.out]; rfl, hbr.trans (hw2.mono hbr.size)⟩
      · rw [hM] at Cv HM1
        have He := Lib.hid (bad fun h => by have := HM1.out.2 h.1.1; cases this)
        clear hM bad
        have hH := y6
        refine wp_region_any (by kernel_rfl) ?_
        refine wpAny_of_held (S := fun w' => w'.cell? ⟨e, f + k * 4, none⟩ = some (.int .i64 k1) ∧ w'.cell? ⟨e, f + k * 4 + 1, none⟩ = some (.int .i64 i1) ∧ w'.cell? ⟨e, f + k * 4 + 2, none⟩ = some (.string t1) ∧ w'.cell? ⟨e, f + k * 4 + 3, none⟩ = some (.bool b1) ∧ w'.cell? ⟨wr.heap.size, 0, none⟩ = some (.string xs) ∧ w'.cell? ⟨wr.heap.size, 1, none⟩ = some (.int .i64 xk) ∧ w'.cell? ⟨wr.heap.size, 2, none⟩ = some (.bool xb)) _ _ _ _ ?_
        change wpAnyH _ _ _ _ _ 25 (Array.replicate 25 false) _ w2.drew
        refine Rt.take (i := 0) (d := 26) (v := (.slice (some ⟨e, f, none⟩) m d)) rfl rfl (by kernel_rfl) (by kernel_rfl) (by kernel_rfl) (fun _ _ _ h => h) (Or.inl ⟨by rfl, ?_⟩) hH ?_
        · rintro w' ⟨s0, s1, s2, s3, s4, s5, s6⟩
          go_simp
        (try simp only [List.setIfInBounds_toArray, List.set_cons_zero, List.set_cons_succ])
        refine Rt.take (i := 1) (d := 27) (v := (.int .i64 k)) rfl rfl (by kernel_rfl) (by kernel_rfl) (by kernel_rfl) (fun _ _ _ h => h) (Or.inl ⟨by rfl, ?_⟩) hH ?_
        · rintro w' ⟨s0, s1, s2, s3, s4, s5, s6⟩
          go_simp
        (try simp only [List.setIfInBounds_toArray, List.set_cons_zero, List.set_cons_succ])
        refine Rt.take (i := 2) (d := 28) (v := (.pointer (some ⟨e, f + k * 4, none⟩))) rfl rfl (by kernel_rfl) (by kernel_rfl) (by kernel_rfl) (fun _ _ _ h => h) (Or.inl ⟨by rfl, ?_⟩) hH ?_
        · rintro w' ⟨s0, s1, s2, s3, s4, s5, s6⟩
          go_simp
        (try simp only [List.setIfInBounds_toArray, List.set_cons_zero, List.set_cons_succ])
        refine Rt.take (i := 3) (d := 29) (v := (.agg #[.int .i64 k1, .int .i64 i1, .string t1, .bool b1])) rfl rfl (by kernel_rfl) (by kernel_rfl) (by kernel_rfl) (fun _ _ _ h => h) (Or.inl ⟨by rfl, ?_⟩) hH ?_
        · rintro w' ⟨s0, s1, s2, s3, s4, s5, s6⟩
          go_simp
        (try simp only [List.setIfInBounds_toArray, List.set_cons_zero, List.set_cons_succ])
        refine wpAnyH_ready (rs := [4]) (by kernel_rfl) (by simp) ?_
        refine AllReadyH.cons rfl (fun K hK => ?_) AllReadyH.nil
        go_simp
        refine (Cv.out w2.drew).mono ?_
        rintro q w7 ⟨rfl, hB7⟩
        have hb7 : Below w2.heap.size w2 w7 := Wd.of_drew hB7
        clear hH
        have hH := and7 ⟨z3, z4, z5, z6, z0, z1, z2⟩ hb7 heB2 hgz
        refine hK.out _ _ hH (fun _ => ?_)
        clear hK K
        (try simp only [Act.put, List.setIfInBounds_toArray, List.set_cons_zero, List.set_cons_succ])
        refine Rt.take (i := 5) (d := 31) (v := .bool true) rfl rfl (by kernel_rfl) (by kernel_rfl) (by kernel_rfl) (fun _ _ _ h => h) (Or.inl ⟨by rfl, ?_⟩) hH ?_
        · rintro w' ⟨s0, s1, s2, s3, s4, s5, s6⟩
          go_simp
        (try simp only [List.setIfInBounds_toArray, List.set_cons_zero, List.set_cons_succ])
        refine Rt.take (i := 6) (d := 32) (v := .bool true) rfl rfl (by kernel_rfl) (by kernel_rfl) (by kernel_rfl) (fun _ _ _ h => h) (Or.inl ⟨by rfl, ?_⟩) hH ?_
        · rintro w' ⟨s0, s1, s2, s3, s4, s5, s6⟩
          go_simp
        (try simp only [List.setIfInBounds_toArray, List.set_cons_zero, List.set_cons_succ])
        refine Rt.take (i := 7) (d := 33) (v := undef) rfl rfl (by kernel_rfl) (by kernel_rfl) (by kernel_rfl) (fun _ _ _ h => h) (Or.inr ⟨by rfl, rfl⟩) hH ?_
        (try simp only [List.setIfInBounds_toArray, List.set_cons_zero, List.set_cons_succ])
        refine Rt.take (i := 8) (d := 34) (v := undef) rfl rfl (by kernel_rfl) (by kernel_rfl) (by kernel_rfl) (fun _ _ _ h => h) (Or.inr ⟨by rfl, rfl⟩) hH ?_
        (try simp only [List.setIfInBounds_toArray, List.set_cons_zero, List.set_cons_succ])
        refine Rt.take (i := 9) (d := 35) (v := undef) rfl rfl (by kernel_rfl) (by kernel_rfl) (by kernel_rfl) (fun _ _ _ h => h) (Or.inr ⟨by rfl, rfl⟩) hH ?_
        (try simp only [List.setIfInBounds_toArray, List.set_cons_zero, List.set_cons_succ])
        refine Rt.take (i := 10) (d := 36) (v := undef) rfl rfl (by kernel_rfl) (by kernel_rfl) (by kernel_rfl) (fun _ _ _ h => h) (Or.inr ⟨by rfl, rfl⟩) hH ?_
        (try simp only [List.setIfInBounds_toArray, List.set_cons_zero, List.set_cons_succ])
        refine Rt.take (i := 11) (d := 37) (v := undef) rfl rfl (by kernel_rfl) (by kernel_rfl) (by kernel_rfl) (fun _ _ _ h => h) (Or.inr ⟨by rfl, rfl⟩) hH ?_
        (try simp only [List.setIfInBounds_toArray, List.set_cons_zero, List.set_cons_succ])
        refine Rt.take (i := 12) (d := 38) (v := undef) rfl rfl (by kernel_rfl) (by kernel_rfl) (by kernel_rfl) (fun _ _ _ h => h) (Or.inr ⟨by rfl, rfl⟩) hH ?_
        (try simp only [List.setIfInBounds_toArray, List.set_cons_zero, List.set_cons_succ])
        refine Rt.take (i := 13) (d := 39) (v := undef) rfl rfl (by kernel_rfl) (by kernel_rfl) (by kernel_rfl) (fun _ _ _ h => h) (Or.inr ⟨by rfl, rfl⟩) hH ?_
        (try simp only [List.setIfInBounds_toArray, List.set_cons_zero, List.set_cons_succ])
        refine Rt.take (i := 14) (d := 40) (v := undef) rfl rfl (by kernel_rfl) (by kernel_rfl) (by kernel_rfl) (fun _ _ _ h => h) (Or.inr ⟨by rfl, rfl⟩) hH ?_
        (try simp only [List.setIfInBounds_toArray, List.set_cons_zero, List.set_cons_succ])
        refine Rt.take (i := 15) (d := 41) (v := undef) rfl rfl (by kernel_rfl) (by kernel_rfl) (by kernel_rfl) (fun _ _ _ h => h) (Or.inr ⟨by rfl, rfl⟩) hH ?_
        (try simp only [List.setIfInBounds_toArray, List.set_cons_zero, List.set_cons_succ])
        refine Rt.take (i := 16) (d := 42) (v := undef) rfl rfl (by kernel_rfl) (by kernel_rfl) (by kernel_rfl) (fun _ _ _ h => h) (Or.inr ⟨by rfl, rfl⟩) hH ?_
        (try simp only [List.setIfInBounds_toArray, List.set_cons_zero, List.set_cons_succ])
        refine Rt.take (i := 17) (d := 43) (v := undef) rfl rfl (by kernel_rfl) (by kernel_rfl) (by kernel_rfl) (fun _ _ _ h => h) (Or.inr ⟨by rfl, rfl⟩) hH ?_
        (try simp only [List.setIfInBounds_toArray, List.set_cons_zero, List.set_cons_succ])
        refine Rt.take (i := 18) (d := 44) (v := undef) rfl rfl (by kernel_rfl) (by kernel_rfl) (by kernel_rfl) (fun _ _ _ h => h) (Or.inr ⟨by rfl, rfl⟩) hH ?_
        (try simp only [List.setIfInBounds_toArray, List.set_cons_zero, List.set_cons_succ])
        refine Rt.take (i := 19) (d := 45) (v := undef) rfl rfl (by kernel_rfl) (by kernel_rfl) (by kernel_rfl) (fun _ _ _ h => h) (Or.inr ⟨by rfl, rfl⟩) hH ?_
        (try simp only [List.setIfInBounds_toArray, List.set_cons_zero, List.set_cons_succ])
        refine Rt.take (i := 20) (d := 46) (v := undef) rfl rfl (by kernel_rfl) (by kernel_rfl) (by kernel_rfl) (fun _ _ _ h => h) (Or.inr ⟨by rfl, rfl⟩) hH ?_
        (try simp only [List.setIfInBounds_toArray, List.set_cons_zero, List.set_cons_succ])
        refine Rt.take (i := 21) (d := 47) (v := undef) rfl rfl (by kernel_rfl) (by kernel_rfl) (by kernel_rfl) (fun _ _ _ h => h) (Or.inr ⟨by rfl, rfl⟩) hH ?_
        (try simp only [List.setIfInBounds_toArray, List.set_cons_zero, List.set_cons_succ])
        refine Rt.take (i := 22) (d := 48) (v := undef) rfl rfl (by kernel_rfl) (by kernel_rfl) (by kernel_rfl) (fun _ _ _ h => h) (Or.inr ⟨by rfl, rfl⟩) hH ?_
        (try simp only [List.setIfInBounds_toArray, List.set_cons_zero, List.set_cons_succ])
        refine Rt.take (i := 23) (d := 49) (v := undef) rfl rfl (by kernel_rfl) (by kernel_rfl) (by kernel_rfl) (fun _ _ _ h => h) (Or.inr ⟨by rfl, rfl⟩) hH ?_
        (try simp only [List.setIfInBounds_toArray, List.set_cons_zero, List.set_cons_succ])
        refine Rt.take (i := 24) (d := 50) (v := .bool true) rfl rfl (by kernel_rfl) (by kernel_rfl) (by kernel_rfl) (fun _ _ _ h => h) (Or.inl ⟨by rfl, ?_⟩) hH ?_
        · rintro w' ⟨s0, s1, s2, s3, s4, s5, s6⟩
          go_simp
        (try simp only [List.setIfInBounds_toArray, List.set_cons_zero, List.set_cons_succ])
        refine wpAnyH_done (by kernel_rfl) ?_ _
        have hw2 := hbx.trans (hb7.mono hbx.size)
        go_wp2_with fail
        go_ret
        exact ⟨by rw [He.out]; rfl, hbr.trans (hw2.mono hbr.size)⟩
    · have hkI : ¬ (k : Int) < m := by omega
      have e : r = true := by
        rw [Hr.out]
        exact tr_yes ⟨HM.out, (fits_get _ _).2 ⟨by rw [← Hm.out, ← Hl.out], fun i hi => hf.out i (by have := Hl.out; omega)⟩⟩
      have He := Lib.hid e
      clear e hf
      go_wp2_with fail
      go_ret
      exact ⟨by rw [He.out]; rfl, hbr⟩
end Sx
end Go.Proofs.YtpappcmgnnmbeaaDoor
