/- The statement UpsertWins: its walk. -/
import Derived.Deep.RegionHeld3
import Derived.Deep.RegionWith
import Derived.Test.YtpappcmgnnmbeaaDoorPk27
import Derived.Test.YtpappcmgnnmbeaaDoorPk28
import Derived.Test.YtpappcmgnnmbeaaDoorPk20
import Derived.Test.YtpappcmgnnmbeaaDoorPk29
namespace Go.Proofs.YtpappcmgnnmbeaaDoor
set_option maxRecDepth 20000
open Go.RowKit Go.Maps
namespace Up
open Va (Vl)
open Wd (Opd)
open Sc (Sch FitS MayS tr tr_yes tr_no)
theorem Ob.mono {wo w : World} {t : Nat} {s : Sch} {L : List Rw} {N M : Nat} {F : Nat → Prop} (h : Ob wo w t s L N F) (hM : N ≤ M) : Ob wo w t s L M F := ⟨h.tb.mono hM, h.bel, h.new⟩
theorem ok_vI' {k : Int} (hk : (Lit.int .i64 k).wf = true) : kV.ok (vI k) := ⟨v1_I hk, Nat.zero_le _⟩
/-- Three boxes and a set of the law's own. -/
structure Kp (w : World) (p15 p16 p18 : Nat) (k : Int) (b : Rw) (A : Option Addr) (n c : Nat) (X : List Int) : Prop where
  b15 : Wd.Bx w p15 27 #[.int .i64 1, .int .i64 k, .string ⟨#[]⟩, .bool false]
  b16 : Wd.Bx w p16 47 #[.int .i64 b.seg, .int .i64 b.doc, .int .i64 b.cmp, .int .i64 b.off, .bool b.gone]
  b18 : Wd.Bx w p18 54 #[.slice A n c]
  st : Bw.St w A n c X
section
variable {w w' : World} {p15 p16 p18 : Nat} {k : Int} {b : Rw} {A : Option Addr} {n c : Nat} {X : List Int} {F : Nat → Prop}
theorem Kp.below (h : Kp w p15 p16 p18 k b A n c X) (hb : Below w.heap.size w w') : Kp w' p15 p16 p18 k b A n c X := ⟨h.b15.below h.b15.lt hb, h.b16.below h.b16.lt hb, h.b18.below h.b18.lt hb, st_below h.st hb⟩
theorem Kp.mv (h : Kp w p15 p16 p18 k b A n c X) (hA : Alien w F) (mv : Wd.Mv F w w') (h1 : ¬ F p15) (h2 : ¬ F p16) (h3 : ¬ F p18) : Kp w' p15 p16 p18 k b A n c X :=
  ⟨h.b15.at_ (mv.keep _ h.b15.lt h1), h.b16.at_ (mv.keep _ h.b16.lt h2), h.b18.at_ (mv.keep _ h.b18.lt h3), st_alien h.st hA mv⟩
/-- The cells of the boxes that the end of the law reads. -/
def S11 (w : World) (p20 p16 p18 : Nat) (b2 b : Rw) (A : Option Addr) (n c : Nat) : Prop :=
  (w.cell? ⟨p20, 0, none⟩ = some (.int .i64 b2.seg) ∧ w.cell? ⟨p20, 1, none⟩ = some (.int .i64 b2.doc) ∧ w.cell? ⟨p20, 2, none⟩ = some (.int .i64 b2.cmp) ∧ w.cell? ⟨p20, 3, none⟩ = some (.int .i64 b2.off) ∧ w.cell? ⟨p20, 4, none⟩ = some (.bool b2.gone)) ∧
    (w.cell? ⟨p16, 0, none⟩ = some (.int .i64 b.seg) ∧ w.cell? ⟨p16, 1, none⟩ = some (.int .i64 b.doc) ∧ w.cell? ⟨p16, 2, none⟩ = some (.int .i64 b.cmp) ∧ w.cell? ⟨p16, 3, none⟩ = some (.int .i64 b.off) ∧ w.cell? ⟨p16, 4, none⟩ = some (.bool b.gone)) ∧ w.cell? ⟨p18, 0, none⟩ = some (.slice A n c)
theorem s11 {p20 : Nat} {b2 : Rw} (h : Kp w p15 p16 p18 k b A n c X) (h2 : Wd.Bx w p20 47 #[.int .i64 b2.seg, .int .i64 b2.doc, .int .i64 b2.cmp, .int .i64 b2.off, .bool b2.gone]) : S11 w p20 p16 p18 b2 b A n c := ⟨winc h2, winc h.b16, h.b18.cell 0⟩
end
end Up
namespace Lw
open Up
open Wd (Opd)
open Sc (tr tr_yes tr_no)
set_option maxHeartbeats 8000000 in
theorem upsertWins_walk (A : Option Addr) (n c : Nat) (l : List Opd) (k m : Int) (d : Bool) (w : World) (hS : Wd.Ops w A n c l) (hk : (Lit.int .i64 k).wf = true) (hm : (Lit.int .i64 m).wf = true) (hT : Bi.Tab w) :
    Calls Tryd.prog 8 #[.slice A n c, .int .i64 k, .int .i64 m, .bool d] w fun e w' => e = .returned (.bool true) ∧ Below w.heap.size w w' := by
  have Ca := Lib.hid (awake_any w hT)
  have HT := Lib.hid hT
  have HS := Lib.hid hS
  have Hl := Lib.hid hS.len
  have hcap := hS.cap
  have Cf := fun (wx : World) (hx : Below w.heap.size w wx) => Up.few_any A n c l wx (hS.below hx)
  have Ck := Lib.hid Keyed_any
  have hk := Lib.hid hk
  have hm := Lib.hid hm
  clear hT hS
  by_cases hf : FewO l
  case neg =>
    rw [tr_no hf] at Cf
    simp only [Bool.false_eq_true, if_false] at Cf
    have Cf := Lib.hid Cf
    clear hf
    go_enter Tryd.func8, Tryd.ntmps8
    go_wp2_with fail
    refine (Ca.out).mono ?_
    rintro e w1 ⟨rfl, hb1⟩
    go_wp2_with fail
    refine (Cf.out _ hb1).mono ?_
    rintro e w2 ⟨rfl, rfl⟩
    go_wp2_with fail
    go_ret
    exact ⟨rfl, hb1⟩
  case pos =>
    rw [tr_yes hf] at Cf
    simp only [if_true] at Cf
    have Cf := Lib.hid Cf
    have Hf := Lib.hid hf
    have hn40 : n ≤ 40 := by have := hf.1; have := Hl.out; omega
    clear hf
    go_enter Tryd.func8, Tryd.ntmps8
    go_wp2_with fail
    refine (Ca.out).mono ?_
    rintro e w1 ⟨rfl, hb1⟩
    go_wp2_with fail
    refine (Cf.out _ hb1).mono ?_
    rintro e w2 ⟨rfl, rfl⟩
    go_wp2_with fail
    refine (Ck.out w2).mono ?_
    rintro e w3 ⟨KA, rfl, hKS, hb2⟩
    have hb3 := hb1.trans (hb2.mono hb1.size)
    have Cn := Lib.hid (ob_new (wo := w) (s := kS) hKS (by omega) k_may hb3)
    clear hKS hb2
    go_wp2_with fail
    refine (Cn.out).mono ?_
    rintro e w4 ⟨t, F0, rfl, o1, -, -⟩
    clear Cn Cf Ca Ck hb1 hb3
    go_wp2_with fail
    go_loopw [12, 13] (fun ov iv wr => ∃ (i : Nat) (L : List Rw) (F : Nat → Prop), iv = .int .i64 (i : Int) ∧ ov = .int .i64 (L.length : Int) ∧ i ≤ n ∧ Hid (Ob w wr t kS L (4 * i) F) ∧ Hid (Sq L) ∧ L.length ≤ i)
      (fun _ iv _ => n - (intOf iv).toNat)
    case atStart => exact ⟨0, [], F0, rfl, rfl, Nat.zero_le _, Lib.hid o1, Lib.hid seq_nil, Nat.le_refl _⟩
    case round =>
      obtain ⟨i, L, F, rfl, rfl, hi, ho, hsq, hLi⟩ := hrel
      clear o1
      by_cases hlt : i < n
      · obtain ⟨b, o, hA, hbB, c0, c1, c2, c3, c4, c5, h1⟩ := (HS.out.below ho.out.bel).cells (j := i) (by rw [← Hl.out]; exact hlt) rfl
        subst hA
        generalize l.getD i default = x at *
        have hkI : (i : Int) < (n : Int) := by omega
        have hkI0 : ¬ ((i : Int) < 0) := by omega
        have Cadd := Lib.hid (ob_add ho.out h1.b 0 (L.length : Int) (L.length : Int) (by unfold maxLen; omega))
        have Hs2 := Lib.hid (seq_add hsq.out kS x.row)
        clear h1 c1 c2 c3 c4 c5
        go_wp2_with fail
        refine (Cadd.out).mono ?_
        rintro e w5 ⟨rfl, -, F5, o5, -⟩
        obtain ⟨er, her⟩ : ∃ er, er = addE kS L x.row 0 (L.length : Int) (L.length : Int) := ⟨_, rfl⟩
        rw [← her]
        have Hser := Lib.hid her
        have Ho5 := Lib.hid o5
        clear her o5 Cadd
        by_cases he : er = 0
        · subst he
          have Hlen := Lib.hid (show (addL kS L x.row 0 (L.length : Int) (L.length : Int)).length = L.length + 1 by rw [Hs2.out.2, if_pos Hser.out.symm])
          go_wp2_with fail
          go_roundw
          case rel => exact ⟨i + 1, _, F5, by go_num, by rw [Hlen.out]; go_num, by omega, Lib.hid (Ob.mono Ho5.out (by omega)), Lib.hid Hs2.out.1, by have := Hlen.out; omega⟩
          case measure => simp [intOf]; omega
        · have Hlen := Lib.hid (show (addL kS L x.row 0 (L.length : Int) (L.length : Int)).length = L.length by rw [Hs2.out.2, if_neg (fun q => he (Hser.out.trans q))])
          go_wp2_with fail
          go_roundw
          case rel => exact ⟨i + 1, _, F5, by go_num, by rw [Hlen.out], by omega, Lib.hid (Ob.mono Ho5.out (by omega)), Lib.hid Hs2.out.1, by have := Hlen.out; omega⟩
          case measure => simp [intOf]; omega
      · have hkI : ¬ ((i : Int) < (n : Int)) := by omega
        have hL40 : L.length ≤ 40 := by omega
        have hi40 : i ≤ 40 := by omega
        have hvk := Lib.hid (ok_vI' hk.out)
        have hlt0 := Lib.hid (show ∀ x, F x → x < wr.heap.size from fun x hx => ho.out.tb.lt hx)
        have Cr := Lib.hid fun wx => row_any (k := k) (n := m) d hk.out hm.out wx
        have hadd := Lib.hid (new_free hsq.out k m d (by omega) hk.out hm.out)
        clear hlt HS Hl Hf hn40 hcap
        obtain ⟨b, hb⟩ : ∃ b, b = best (win true L) (vI k) := ⟨_, rfl⟩
        obtain ⟨T, hTT⟩ : ∃ T, T = (win true L (vI k)).isSome := ⟨_, rfl⟩
        obtain ⟨b2, hb2⟩ : ∃ b2, b2 = best (win true (L ++ [newR L k m d])) (vI k) := ⟨_, rfl⟩
        have HB := Lib.hid hb
        have HTT := Lib.hid hTT
        have HB2 := Lib.hid hb2
        clear hb hTT hb2
        have Cf1 := Lib.hid fun (wx : World) (N : Nat) (o : Ob w wx t kS L N F) => (show Calls Tryd.prog 17 #[.pointer (some ⟨t, 0, none⟩), .agg #[.int .i64 1, .int .i64 k, .string ⟨#[]⟩, .bool false]] wx fun e w' => e = .returned (.tuple #[.agg #[.int .i64 b.seg, .int .i64 b.doc, .int .i64 b.cmp, .int .i64 b.off, .bool b.gone], .bool T]) ∧ Below wx.heap.size wx w' by
          have := ob_find o hvk.out
          rw [kd_k, ← HB.out, ← HTT.out] at this
          exact this)
        have hT2 : (win true (L ++ [newR L k m d]) (vI k)).isSome = true := by rw [new_win hsq.out]; rfl
        have Cf2 := Lib.hid fun (wx : World) (N : Nat) (F2 : Nat → Prop) (o : Ob w wx t kS (L ++ [newR L k m d]) N F2) => (show Calls Tryd.prog 17 #[.pointer (some ⟨t, 0, none⟩), .agg #[.int .i64 1, .int .i64 k, .string ⟨#[]⟩, .bool false]] wx fun e w' => e = .returned (.tuple #[.agg #[.int .i64 b2.seg, .int .i64 b2.doc, .int .i64 b2.cmp, .int .i64 b2.off, .bool b2.gone], .bool true]) ∧ Below wx.heap.size wx w' by
          have := ob_find o hvk.out
          rw [kd_k, hT2, ← HB2.out] at this
          exact this)
        clear hT2
        have b15 := Wd.Bx.new wr 27 #[.int .i64 1, .int .i64 k, .string ⟨#[]⟩, .bool false]
        have o1 := ho.out.below ((Below.refl _ _).alloc (Nat.le_refl _) (.cells #[.int .i64 1, .int .i64 k, .string ⟨#[]⟩, .bool false] 27))
        have HO := Lib.hid o1
        have d0 := b15.cell 0
        have d1 := b15.cell 1
        have d2 := b15.cell 2
        have d3 := b15.cell 3
        simp at d0 d1 d2 d3
        clear o1
        go_wp2_with fail
        generalize hxa : wr.alloc (.cells #[.int .i64 1, .int .i64 k, .string ⟨#[]⟩, .bool false] 27) = xa at *
        clear hxa
        refine (Cf1.out _ _ HO.out).mono ?_
        rintro e w6 ⟨rfl, hb6⟩
        have o2 := HO.out.below hb6
        have b15b := b15.below b15.lt hb6
        clear HO b15 hb6 d0 d1 d2 d3 Cf1
        have o3 := Lib.hid (o2.below ((Below.refl _ _).alloc (Nat.le_refl _) (.cells #[.int .i64 b.seg, .int .i64 b.doc, .int .i64 b.cmp, .int .i64 b.off, .bool b.gone] 47)))
        have b15 := b15b.alloc (.cells #[.int .i64 b.seg, .int .i64 b.doc, .int .i64 b.cmp, .int .i64 b.off, .bool b.gone] 47)
        have b16 := Wd.Bx.new w6 47 #[.int .i64 b.seg, .int .i64 b.doc, .int .i64 b.cmp, .int .i64 b.off, .bool b.gone]
        have hp6 : wr.heap.size < w6.heap.size := b15b.lt
        have CV := Lib.hid fun (wx : World) (N : Nat) (L2 : List Rw) (F2 : Nat → Prop) (hN : N ≤ 100000) (o : Ob w wx t kS L2 N F2) => (show Calls Tryd.prog 21 #[.pointer (some ⟨t, 0, none⟩), .int .i64 0] wx (Bi.Gv Bw.St wx (validL true L2 0)) by
          have := ob_valid o hN (g := 0) wf_zero
          rwa [kd_k] at this)
        clear b15b o2
        go_wp2_with fail
        generalize hxb : w6.alloc (.cells #[.int .i64 b.seg, .int .i64 b.doc, .int .i64 b.cmp, .int .i64 b.off, .bool b.gone] 47) = xb at *
        clear hxb
        refine (CV.out _ _ _ _ (by omega) o3.out).mono ?_
        rintro e w7 ⟨A1, n1, c1, rfl, hst, hb7⟩
        have o4 := Lib.hid ((o3.out.below hb7).below ((Below.refl _ _).alloc (Nat.le_refl _) (.cells #[.slice A1 n1 c1] 54)))
        have hp7 : w6.heap.size < w7.heap.size := Nat.lt_of_lt_of_le b16.lt hb7.size
        have K0 := Lib.hid (show Kp (w7.alloc (.cells #[.slice A1 n1 c1] 54)) wr.heap.size w6.heap.size w7.heap.size k b A1 n1 c1 (validL true L 0) from
          ⟨(b15.below b15.lt hb7).alloc _, (b16.below b16.lt hb7).alloc _, Wd.Bx.new _ _ _, st_below hst ((Below.refl _ _).alloc (Nat.le_refl _) _)⟩)
        clear b15 b16 hst hb7 o3
        go_wp2_with fail
        generalize hxc : w7.alloc (.cells #[.slice A1 n1 c1] 54) = xc at *
        clear hxc
        refine (Cr.out _).mono ?_
        rintro e w8 ⟨R, rfl, hV, hb8⟩
        have o5 := o4.out.below hb8
        have K1 := K0.out.below hb8
        have Cad := ob_add o5 hV 0 (L.length : Int) (L.length : Int) (by unfold maxLen; omega)
        rw [hadd.out.1, hadd.out.2] at Cad
        have Cad := Lib.hid Cad
        have hal := o5.tb.alien
        have hF15 : ¬ F wr.heap.size ∧ ¬ F w6.heap.size ∧ ¬ F w7.heap.size := ⟨fun q => by have := hlt0.out _ q; omega, fun q => by have := hlt0.out _ q; omega, fun q => by have := hlt0.out _ q; omega⟩
        clear o4 o5 K0 hV hb8
        go_wp2_with fail
        refine (Cad.out).mono ?_
        rintro e w9 ⟨rfl, mv9, F9, o6, -⟩
        have K2 := K1.mv hal mv9 hF15.1 hF15.2.1 hF15.2.2
        clear K1 mv9 hal hF15 Cad
        have d0 := K2.b15.cell 0
        have d1 := K2.b15.cell 1
        have d2 := K2.b15.cell 2
        have d3 := K2.b15.cell 3
        simp at d0 d1 d2 d3
        go_wp2_with fail
        refine (Cf2.out _ _ _ o6).mono ?_
        rintro e w10 ⟨rfl, hb10⟩
        have o7 := Lib.hid ((o6.below hb10).below ((Below.refl _ _).alloc (Nat.le_refl _) (.cells #[.int .i64 b2.seg, .int .i64 b2.doc, .int .i64 b2.cmp, .int .i64 b2.off, .bool b2.gone] 47)))
        have K3 := Lib.hid ((K2.below hb10).below ((Below.refl _ _).alloc (Nat.le_refl _) (.cells #[.int .i64 b2.seg, .int .i64 b2.doc, .int .i64 b2.cmp, .int .i64 b2.off, .bool b2.gone] 47)))
        have b20 := Wd.Bx.new w10 47 #[.int .i64 b2.seg, .int .i64 b2.doc, .int .i64 b2.cmp, .int .i64 b2.off, .bool b2.gone]
        clear o6 K2 hb10 d0 d1 d2 d3 Cf2
        obtain ⟨t0, t1, t2, t3, t4⟩ := winc b20
        obtain ⟨u0, u1, u2, u3, u4⟩ := winc K3.out.b16
        have s0 := K3.out.b18.cell 0
        simp at s0
        have CL := Lib.hid fun (wx : World) (Ax : Option Addr) (nx cx : Nat) (X : List Int) (hb : Below w.heap.size w wx) (h : Bw.St wx Ax nx cx X) => Bw.list_of h (HT.out.below hb) (-1)
        by_cases hbm : T = true ∧ m < b.cmp
        · obtain ⟨rfl, hbc⟩ := hbm
          have hwin : win true L (vI k) = some b := by
            rcases hq : win true L (vI k) with _ | b'
            · have := HTT.out
              rw [hq] at this
              cases this
            · have := HB.out
              unfold best at this
              rw [hq] at this
              rw [this]
              rfl
          have hb2 : b2 = b := by
            rw [HB2.out, HB.out, new_loses hsq.out k m d hwin hbc]
          have hvv := valid_congr (new_loses hsq.out k m d hwin hbc) 0
          subst hb2
          have hE := Lib.hid fun w => (show (Op.equalIn 10000 47 (.agg #[.int .i64 b2.seg, .int .i64 b2.doc, .int .i64 b2.cmp, .int .i64 b2.off, .bool b2.gone]) (.agg #[.int .i64 b2.seg, .int .i64 b2.doc, .int .i64 b2.cmp, .int .i64 b2.off, .bool b2.gone])).run Tryd.prog w = .ok true w by
            have := eqW b2 b2 w
            rwa [decide_eq_true (by simp)] at this)
          have hvv := Lib.hid hvv
          have HW := Lib.hid hwin
          clear hwin hadd Cr
          have hgt : b2.cmp > m := hbc
          obtain ⟨X, hX⟩ : ∃ X, X = validL true L 0 := ⟨_, rfl⟩
          have CV2 := Lib.hid fun (wx : World) (N : Nat) (F2 : Nat → Prop) (hN : N ≤ 100000) (o : Ob w wx t kS (L ++ [newR L k m d]) N F2) => (show Calls Tryd.prog 21 #[.pointer (some ⟨t, 0, none⟩), .int .i64 0] wx (Bi.Gv Bw.St wx X) by
            have := CV.out wx N _ F2 hN o
            rwa [hvv.out, ← hX] at this)
          have Ci := Lib.hid fun (wx : World) (Ax Bx : Option Addr) (nx mx cx dx : Nat) (h1 : Wd.Sl wx .i64 Ax nx cx X) (h2 : Wd.Sl wx .i64 Bx mx dx X) => (show Calls Tryd.prog 19 #[.slice Ax nx cx, .slice Bx mx dx] wx fun e w' => e = .returned (.bool true) ∧ ∃ q, w' = wx.drewN q by
            have := Nc.ints_any Ax Bx nx mx cx dx X X wx h1 h2
            rwa [decide_eq_true rfl] at this)
          rw [← hX] at K3
          clear hX CV
          go_upto_region 20 with fail
          generalize hxd : w10.alloc (.cells #[.int .i64 b2.seg, .int .i64 b2.doc, .int .i64 b2.cmp, .int .i64 b2.off, .bool b2.gone] 47) = xd at *
          clear hxd
          have hbr : Below xd.heap.size xd xd.drew := (Below.refl _ _).drew
          have hs := s11 K3.out b20
          have hE := hE.out
          go_region_held3 (fun w' => (w'.cell? ⟨w10.heap.size, 0, none⟩ = some (.int .i64 b2.seg) ∧ w'.cell? ⟨w10.heap.size, 1, none⟩ = some (.int .i64 b2.doc) ∧ w'.cell? ⟨w10.heap.size, 2, none⟩ = some (.int .i64 b2.cmp) ∧ w'.cell? ⟨w10.heap.size, 3, none⟩ = some (.int .i64 b2.off) ∧ w'.cell? ⟨w10.heap.size, 4, none⟩ = some (.bool b2.gone)) ∧ (w'.cell? ⟨w6.heap.size, 0, none⟩ = some (.int .i64 b2.seg) ∧ w'.cell? ⟨w6.heap.size, 1, none⟩ = some (.int .i64 b2.doc) ∧ w'.cell? ⟨w6.heap.size, 2, none⟩ = some (.int .i64 b2.cmp) ∧ w'.cell? ⟨w6.heap.size, 3, none⟩ = some (.int .i64 b2.off) ∧ w'.cell? ⟨w6.heap.size, 4, none⟩ = some (.bool b2.gone)) ∧ w'.cell? ⟨w7.heap.size, 0, none⟩ = some (.slice A1 n1 c1))
            (first | exact hs | go_keep)
            (first | (go_at_call 21; (with_reducible refine (CV2.out _ _ _ (by omega) (o7.out.below hbr)).mono ?_); rintro e wv ⟨A3, n3, c3, rfl, hst3, hbv⟩; replace hbr := hbr.trans (hbv.mono hbr.size); have hs := s11 (K3.out.below hbr) (b20.below b20.lt hbr); (try replace hslB := hslB.below hbv)) | (go_at_call 20; (with_reducible refine (CL.out _ A3 n3 c3 X (o7.out.bel.trans (hbr.mono o7.out.bel.size)) hst3).mono ?_); rintro e wl ⟨A4, n4, c4, rfl, hslA, hbl⟩; replace hbr := hbr.trans (hbl.mono hbr.size); have hs := s11 (K3.out.below hbr) (b20.below b20.lt hbr); (try replace hslB := hslB.below hbl)) | (go_at_call 20; (with_reducible refine (CL.out _ A1 n1 c1 X (o7.out.bel.trans (hbr.mono o7.out.bel.size)) (K3.out.below hbr).st).mono ?_); rintro e wl ⟨A5, n5, c5, rfl, hslB, hbl⟩; replace hbr := hbr.trans (hbl.mono hbr.size); have hs := s11 (K3.out.below hbr) (b20.below b20.lt hbr); (try replace hslA := hslA.below hbl); (try replace hst3 := st_below hst3 hbl)) | (go_at_call 19; (with_reducible refine (Ci.out _ _ _ _ _ _ _ hslA hslB).mono ?_); rintro e wi ⟨rfl, q, rfl⟩; replace hbr := hbr.trans ((Wd.below_drewN (Below.refl _ _) q).mono hbr.size); have hs := s11 (K3.out.below hbr) (b20.below b20.lt hbr)))
          all_goals (
            go_wp2_with fail
            go_ret
            exact ⟨rfl, o7.out.bel.trans (hbr.mono o7.out.bel.size)⟩)
        · have hwin2 : win true (L ++ [newR L k m d]) (vI k) = some (newR L k m d) := by
            rw [new_win hsq.out]
            rcases hq : win true L (vI k) with _ | b'
            · rfl
            · have e1 := HB.out
              have e2 := HTT.out
              unfold best at e1
              rw [hq] at e1 e2
              simp only [Option.getD_some] at e1
              simp only [Option.isSome_some] at e2
              simp only
              rw [if_pos (by rw [← e1]; by_cases z : m < b.cmp; exact absurd ⟨e2, z⟩ hbm; omega)]
          have hb2 : b2 = newR L k m d := by
            rw [HB2.out]
            unfold best
            rw [hwin2]
            rfl
          replace hb2 := Lib.hid hb2
          obtain ⟨X2, hX2⟩ : ∃ X2, X2 = validL true (L ++ [newR L k m d]) 0 := ⟨_, rfl⟩
          have CV3 := Lib.hid fun (wx : World) (N : Nat) (F2 : Nat → Prop) (hN : N ≤ 100000) (o : Ob w wx t kS (L ++ [newR L k m d]) N F2) => (show Calls Tryd.prog 21 #[.pointer (some ⟨t, 0, none⟩), .int .i64 0] wx (Bi.Gv Bw.St wx X2) by
            have := CV.out wx N _ F2 hN o
            rwa [← hX2] at this)
          have hE := Lib.hid fun w => (show (Op.equalIn 10000 42 (.agg #[.int .i64 0, .int .i64 (L.length : Int)]) (.agg #[.int .i64 0, .int .i64 (L.length : Int)])).run Tryd.prog w = .ok true w by
            have := eqP 9998 0 (L.length : Int) 0 (L.length : Int) w
            rwa [decide_eq_true ⟨rfl, rfl⟩] at this)
          clear hadd Cr CV CL t0 t1 t2 t3 t4
          cases T
          · clear hbm
            cases d
            · have Ch1 := Lib.hid fun (wx : World) (Ax : Option Addr) (nx cx : Nat) (h : Bw.St wx Ax nx cx X2) => (show Calls Tryd.prog 28 #[.agg #[.slice Ax nx cx], .int .i64 (L.length : Int)] wx fun e w' => e = .returned (.bool true) ∧ Below wx.heap.size wx w' by
                have := Bw.has_any Ax nx cx X2 (L.length : Int) wx h ⟨by omega, by omega⟩
                rwa [hX2, new_has hsq.out k m false (by omega) hwin2] at this)
              replace hX2 := Lib.hid hX2
              clear hwin2
              go_upto_region 21 with fail
              generalize hxd : w10.alloc (.cells #[.int .i64 b2.seg, .int .i64 b2.doc, .int .i64 b2.cmp, .int .i64 b2.off, .bool b2.gone] 47) = xd at *
              clear hxd
              replace b20 : Wd.Bx xd w10.heap.size 47 #[.int .i64 0, .int .i64 (L.length : Int), .int .i64 m, .int .i64 (L.length : Int), .bool false] := by
                have := b20
                rw [hb2.out] at this
                exact this
              have hbr : Below xd.heap.size xd xd.drew := (Below.refl _ _).drew
              have hs : (xd.cell? ⟨w10.heap.size, 0, none⟩ = some (.int .i64 0) ∧ xd.cell? ⟨w10.heap.size, 1, none⟩ = some (.int .i64 (L.length : Int)) ∧ xd.cell? ⟨w10.heap.size, 2, none⟩ = some (.int .i64 m) ∧ xd.cell? ⟨w10.heap.size, 3, none⟩ = some (.int .i64 (L.length : Int)) ∧ xd.cell? ⟨w10.heap.size, 4, none⟩ = some (.bool false)) ∧ (xd.cell? ⟨w6.heap.size, 0, none⟩ = some (.int .i64 b.seg) ∧ xd.cell? ⟨w6.heap.size, 1, none⟩ = some (.int .i64 b.doc) ∧ xd.cell? ⟨w6.heap.size, 2, none⟩ = some (.int .i64 b.cmp) ∧ xd.cell? ⟨w6.heap.size, 3, none⟩ = some (.int .i64 b.off) ∧ xd.cell? ⟨w6.heap.size, 4, none⟩ = some (.bool b.gone)) ∧ xd.cell? ⟨w7.heap.size, 0, none⟩ = some (.slice A1 n1 c1) := ⟨winc b20, winc K3.out.b16, K3.out.b18.cell 0⟩
              have hE := hE.out
              obtain ⟨u0, u1, u2, u3, u4⟩ := winc K3.out.b16
              obtain ⟨t0, t1, t2, t3, t4⟩ := winc b20
              have s0 : xd.cell? ⟨w7.heap.size, 0, none⟩ = some (.slice A1 n1 c1) := K3.out.b18.cell 0
              have hH : xd.drew.cell? ⟨w10.heap.size, 0, none⟩ = some (.int .i64 0) ∧ xd.drew.cell? ⟨w10.heap.size, 1, none⟩ = some (.int .i64 (L.length : Int)) ∧ xd.drew.cell? ⟨w10.heap.size, 2, none⟩ = some (.int .i64 m) ∧ xd.drew.cell? ⟨w10.heap.size, 3, none⟩ = some (.int .i64 (L.length : Int)) ∧ xd.drew.cell? ⟨w10.heap.size, 4, none⟩ = some (.bool false) ∧ xd.drew.cell? ⟨w6.heap.size, 0, none⟩ = some (.int .i64 b.seg) ∧ xd.drew.cell? ⟨w6.heap.size, 1, none⟩ = some (.int .i64 b.doc) ∧ xd.drew.cell? ⟨w6.heap.size, 2, none⟩ = some (.int .i64 b.cmp) ∧ xd.drew.cell? ⟨w6.heap.size, 3, none⟩ = some (.int .i64 b.off) ∧ xd.drew.cell? ⟨w6.heap.size, 4, none⟩ = some (.bool b.gone) ∧ xd.drew.cell? ⟨w7.heap.size, 0, none⟩ = some (.slice A1 n1 c1) := ⟨t0, t1, t2, t3, t4, u0, u1, u2, u3, u4, s0⟩
              clear hs
              refine wp_region_any (by kernel_rfl) ?_
              refine wpAny_of_held (S := fun w' => w'.cell? ⟨w10.heap.size, 0, none⟩ = some (.int .i64 0) ∧ w'.cell? ⟨w10.heap.size, 1, none⟩ = some (.int .i64 (L.length : Int)) ∧ w'.cell? ⟨w10.heap.size, 2, none⟩ = some (.int .i64 m) ∧ w'.cell? ⟨w10.heap.size, 3, none⟩ = some (.int .i64 (L.length : Int)) ∧ w'.cell? ⟨w10.heap.size, 4, none⟩ = some (.bool false) ∧ w'.cell? ⟨w6.heap.size, 0, none⟩ = some (.int .i64 b.seg) ∧ w'.cell? ⟨w6.heap.size, 1, none⟩ = some (.int .i64 b.doc) ∧ w'.cell? ⟨w6.heap.size, 2, none⟩ = some (.int .i64 b.cmp) ∧ w'.cell? ⟨w6.heap.size, 3, none⟩ = some (.int .i64 b.off) ∧ w'.cell? ⟨w6.heap.size, 4, none⟩ = some (.bool b.gone) ∧ w'.cell? ⟨w7.heap.size, 0, none⟩ = some (.slice A1 n1 c1)) _ _ _ _ ?_
              change wpAnyH _ _ _ _ _ 40 (Array.replicate 40 false) _ xd.drew
              refine Rt.take (i := 0) (d := 105) (v := .pointer (some ⟨w10.heap.size, 0, none⟩)) rfl rfl (by kernel_rfl) (by kernel_rfl) (by kernel_rfl) (fun _ _ _ h => h) (Or.inl ⟨by rfl, ?_⟩) hH ?_
              · rintro w' ⟨s0, s1, s2, s3, s4, s5, s6, s7, s8, s9, s10⟩
                go_simp
              (try simp only [List.setIfInBounds_toArray, List.set_cons_zero, List.set_cons_succ])
              refine Rt.take (i := 1) (d := 106) (v := .agg #[.int .i64 0, .int .i64 (L.length : Int)]) rfl rfl (by kernel_rfl) (by kernel_rfl) (by kernel_rfl) (fun _ _ _ h => h) (Or.inl ⟨by rfl, ?_⟩) hH ?_
              · rintro w' ⟨s0, s1, s2, s3, s4, s5, s6, s7, s8, s9, s10⟩
                go_simp
              (try simp only [List.setIfInBounds_toArray, List.set_cons_zero, List.set_cons_succ])
              refine Rt.take (i := 2) (d := 107) (v := .int .i64 (L.length : Int)) rfl rfl (by kernel_rfl) (by kernel_rfl) (by kernel_rfl) (fun _ _ _ h => h) (Or.inl ⟨by rfl, ?_⟩) hH ?_
              · rintro w' ⟨s0, s1, s2, s3, s4, s5, s6, s7, s8, s9, s10⟩
                go_simp
              (try simp only [List.setIfInBounds_toArray, List.set_cons_zero, List.set_cons_succ])
              refine Rt.take (i := 3) (d := 108) (v := .agg #[.int .i64 0, .int .i64 (L.length : Int)]) rfl rfl (by kernel_rfl) (by kernel_rfl) (by kernel_rfl) (fun _ _ _ h => h) (Or.inl ⟨by rfl, ?_⟩) hH ?_
              · rintro w' ⟨s0, s1, s2, s3, s4, s5, s6, s7, s8, s9, s10⟩
                go_simp
              (try simp only [List.setIfInBounds_toArray, List.set_cons_zero, List.set_cons_succ])
              refine Rt.take (i := 4) (d := 109) (v := .bool true) rfl rfl (by kernel_rfl) (by kernel_rfl) (by kernel_rfl) (fun _ _ _ h => h) (Or.inl ⟨by rfl, ?_⟩) hH ?_
              · rintro w' ⟨s0, s1, s2, s3, s4, s5, s6, s7, s8, s9, s10⟩
                go_simp
              (try simp only [List.setIfInBounds_toArray, List.set_cons_zero, List.set_cons_succ])
              refine Rt.take (i := 5) (d := 110) (v := .bool true) rfl rfl (by kernel_rfl) (by kernel_rfl) (by kernel_rfl) (fun _ _ _ h => h) (Or.inl ⟨by rfl, ?_⟩) hH ?_
              · rintro w' ⟨s0, s1, s2, s3, s4, s5, s6, s7, s8, s9, s10⟩
                go_simp
              (try simp only [List.setIfInBounds_toArray, List.set_cons_zero, List.set_cons_succ])
              refine Rt.take (i := 6) (d := 111) (v := .pointer (some ⟨w10.heap.size, 2, none⟩)) rfl rfl (by kernel_rfl) (by kernel_rfl) (by kernel_rfl) (fun _ _ _ h => h) (Or.inl ⟨by rfl, ?_⟩) hH ?_
              · rintro w' ⟨s0, s1, s2, s3, s4, s5, s6, s7, s8, s9, s10⟩
                go_simp
              (try simp only [List.setIfInBounds_toArray, List.set_cons_zero, List.set_cons_succ])
              refine Rt.take (i := 7) (d := 112) (v := .int .i64 m) rfl rfl (by kernel_rfl) (by kernel_rfl) (by kernel_rfl) (fun _ _ _ h => h) (Or.inl ⟨by rfl, ?_⟩) hH ?_
              · rintro w' ⟨s0, s1, s2, s3, s4, s5, s6, s7, s8, s9, s10⟩
                go_simp
              (try simp only [List.setIfInBounds_toArray, List.set_cons_zero, List.set_cons_succ])
              refine Rt.take (i := 8) (d := 113) (v := .int .i64 m) rfl rfl (by kernel_rfl) (by kernel_rfl) (by kernel_rfl) (fun _ _ _ h => h) (Or.inl ⟨by rfl, ?_⟩) hH ?_
              · rintro w' ⟨s0, s1, s2, s3, s4, s5, s6, s7, s8, s9, s10⟩
                go_simp
              (try simp only [List.setIfInBounds_toArray, List.set_cons_zero, List.set_cons_succ])
              refine Rt.take (i := 9) (d := 114) (v := .bool true) rfl rfl (by kernel_rfl) (by kernel_rfl) (by kernel_rfl) (fun _ _ _ h => h) (Or.inl ⟨by rfl, ?_⟩) hH ?_
              · rintro w' ⟨s0, s1, s2, s3, s4, s5, s6, s7, s8, s9, s10⟩
                go_simp
              (try simp only [List.setIfInBounds_toArray, List.set_cons_zero, List.set_cons_succ])
              refine Rt.take (i := 10) (d := 115) (v := .bool true) rfl rfl (by kernel_rfl) (by kernel_rfl) (by kernel_rfl) (fun _ _ _ h => h) (Or.inl ⟨by rfl, ?_⟩) hH ?_
              · rintro w' ⟨s0, s1, s2, s3, s4, s5, s6, s7, s8, s9, s10⟩
                go_simp
              (try simp only [List.setIfInBounds_toArray, List.set_cons_zero, List.set_cons_succ])
              refine Rt.take (i := 11) (d := 116) (v := .bool true) rfl rfl (by kernel_rfl) (by kernel_rfl) (by kernel_rfl) (fun _ _ _ h => h) (Or.inl ⟨by rfl, ?_⟩) hH ?_
              · rintro w' ⟨s0, s1, s2, s3, s4, s5, s6, s7, s8, s9, s10⟩
                go_simp
              (try simp only [List.setIfInBounds_toArray, List.set_cons_zero, List.set_cons_succ])
              refine Rt.take (i := 12) (d := 117) (v := .pointer (some ⟨w10.heap.size, 4, none⟩)) rfl rfl (by kernel_rfl) (by kernel_rfl) (by kernel_rfl) (fun _ _ _ h => h) (Or.inl ⟨by rfl, ?_⟩) hH ?_
              · rintro w' ⟨s0, s1, s2, s3, s4, s5, s6, s7, s8, s9, s10⟩
                go_simp
              (try simp only [List.setIfInBounds_toArray, List.set_cons_zero, List.set_cons_succ])
              refine Rt.take (i := 13) (d := 118) (v := .bool false) rfl rfl (by kernel_rfl) (by kernel_rfl) (by kernel_rfl) (fun _ _ _ h => h) (Or.inl ⟨by rfl, ?_⟩) hH ?_
              · rintro w' ⟨s0, s1, s2, s3, s4, s5, s6, s7, s8, s9, s10⟩
                go_simp
              (try simp only [List.setIfInBounds_toArray, List.set_cons_zero, List.set_cons_succ])
              refine Rt.take (i := 14) (d := 119) (v := .bool false) rfl rfl (by kernel_rfl) (by kernel_rfl) (by kernel_rfl) (fun _ _ _ h => h) (Or.inl ⟨by rfl, ?_⟩) hH ?_
              · rintro w' ⟨s0, s1, s2, s3, s4, s5, s6, s7, s8, s9, s10⟩
                go_simp
              (try simp only [List.setIfInBounds_toArray, List.set_cons_zero, List.set_cons_succ])
              refine Rt.take (i := 15) (d := 120) (v := .bool true) rfl rfl (by kernel_rfl) (by kernel_rfl) (by kernel_rfl) (fun _ _ _ h => h) (Or.inl ⟨by rfl, ?_⟩) hH ?_
              · rintro w' ⟨s0, s1, s2, s3, s4, s5, s6, s7, s8, s9, s10⟩
                go_simp
              (try simp only [List.setIfInBounds_toArray, List.set_cons_zero, List.set_cons_succ])
              refine Rt.take (i := 16) (d := 121) (v := .bool true) rfl rfl (by kernel_rfl) (by kernel_rfl) (by kernel_rfl) (fun _ _ _ h => h) (Or.inl ⟨by rfl, ?_⟩) hH ?_
              · rintro w' ⟨s0, s1, s2, s3, s4, s5, s6, s7, s8, s9, s10⟩
                go_simp
              (try simp only [List.setIfInBounds_toArray, List.set_cons_zero, List.set_cons_succ])
              refine Rt.take (i := 17) (d := 122) (v := .bool true) rfl rfl (by kernel_rfl) (by kernel_rfl) (by kernel_rfl) (fun _ _ _ h => h) (Or.inl ⟨by rfl, ?_⟩) hH ?_
              · rintro w' ⟨s0, s1, s2, s3, s4, s5, s6, s7, s8, s9, s10⟩
                go_simp
              (try simp only [List.setIfInBounds_toArray, List.set_cons_zero, List.set_cons_succ])
              refine Rt.take (i := 18) (d := 123) (v := .pointer (some ⟨t, 0, none⟩)) rfl rfl (by kernel_rfl) (by kernel_rfl) (by kernel_rfl) (fun _ _ _ h => h) (Or.inl ⟨by rfl, ?_⟩) hH ?_
              · rintro w' ⟨s0, s1, s2, s3, s4, s5, s6, s7, s8, s9, s10⟩
                go_simp
              (try simp only [List.setIfInBounds_toArray, List.set_cons_zero, List.set_cons_succ])
              refine Rt.take (i := 20) (d := 125) (v := .int .i64 (L.length : Int)) rfl rfl (by kernel_rfl) (by kernel_rfl) (by kernel_rfl) (fun _ _ _ h => h) (Or.inl ⟨by rfl, ?_⟩) hH ?_
              · rintro w' ⟨s0, s1, s2, s3, s4, s5, s6, s7, s8, s9, s10⟩
                go_simp
              (try simp only [List.setIfInBounds_toArray, List.set_cons_zero, List.set_cons_succ])
              refine Rt.take (i := 22) (d := 127) (v := .bool false) rfl rfl (by kernel_rfl) (by kernel_rfl) (by kernel_rfl) (fun _ _ _ h => h) (Or.inl ⟨by rfl, ?_⟩) hH ?_
              · rintro w' ⟨s0, s1, s2, s3, s4, s5, s6, s7, s8, s9, s10⟩
                go_simp
              (try simp only [List.setIfInBounds_toArray, List.set_cons_zero, List.set_cons_succ])
              refine Rt.take (i := 23) (d := 128) (v := .bool true) rfl rfl (by kernel_rfl) (by kernel_rfl) (by kernel_rfl) (fun _ _ _ h => h) (Or.inl ⟨by rfl, ?_⟩) hH ?_
              · rintro w' ⟨s0, s1, s2, s3, s4, s5, s6, s7, s8, s9, s10⟩
                go_simp
              (try simp only [List.setIfInBounds_toArray, List.set_cons_zero, List.set_cons_succ])
              refine wpAnyH_ready (rs := [19]) (by kernel_rfl) (by simp) ?_
              refine AllReadyH.cons rfl (fun K hK => ?_) AllReadyH.nil
              go_simp
              refine (CV3.out _ _ _ (by omega) (o7.out.below hbr)).mono ?_
              rintro e wv ⟨A3, n3, c3, rfl, hst3, hbv⟩
              replace hbr := hbr.trans (hbv.mono hbr.size)
              clear hH
              obtain ⟨t0, t1, t2, t3, t4⟩ := winc (b20.below b20.lt hbr)
              obtain ⟨u0, u1, u2, u3, u4⟩ := winc (K3.out.below hbr).b16
              have s0 : wv.cell? ⟨w7.heap.size, 0, none⟩ = some (.slice A1 n1 c1) := (K3.out.below hbr).b18.cell 0
              have hH : wv.cell? ⟨w10.heap.size, 0, none⟩ = some (.int .i64 0) ∧ wv.cell? ⟨w10.heap.size, 1, none⟩ = some (.int .i64 (L.length : Int)) ∧ wv.cell? ⟨w10.heap.size, 2, none⟩ = some (.int .i64 m) ∧ wv.cell? ⟨w10.heap.size, 3, none⟩ = some (.int .i64 (L.length : Int)) ∧ wv.cell? ⟨w10.heap.size, 4, none⟩ = some (.bool false) ∧ wv.cell? ⟨w6.heap.size, 0, none⟩ = some (.int .i64 b.seg) ∧ wv.cell? ⟨w6.heap.size, 1, none⟩ = some (.int .i64 b.doc) ∧ wv.cell? ⟨w6.heap.size, 2, none⟩ = some (.int .i64 b.cmp) ∧ wv.cell? ⟨w6.heap.size, 3, none⟩ = some (.int .i64 b.off) ∧ wv.cell? ⟨w6.heap.size, 4, none⟩ = some (.bool b.gone) ∧ wv.cell? ⟨w7.heap.size, 0, none⟩ = some (.slice A1 n1 c1) := ⟨t0, t1, t2, t3, t4, u0, u1, u2, u3, u4, s0⟩
              refine hK.out _ _ hH (fun _ => ?_)
              clear hK K
              (try simp only [Act.put, List.setIfInBounds_toArray, List.set_cons_zero, List.set_cons_succ])
              refine wpAnyH_ready (rs := [21]) (by kernel_rfl) (by simp) ?_
              refine AllReadyH.cons rfl (fun K hK => ?_) AllReadyH.nil
              go_simp
              refine (Ch1.out _ A3 n3 c3 hst3).mono ?_
              rintro e wl ⟨rfl, hbl⟩
              replace hbr := hbr.trans (hbl.mono hbr.size)
              clear hH
              obtain ⟨t0, t1, t2, t3, t4⟩ := winc (b20.below b20.lt hbr)
              obtain ⟨u0, u1, u2, u3, u4⟩ := winc (K3.out.below hbr).b16
              have s0 : wl.cell? ⟨w7.heap.size, 0, none⟩ = some (.slice A1 n1 c1) := (K3.out.below hbr).b18.cell 0
              have hH : wl.cell? ⟨w10.heap.size, 0, none⟩ = some (.int .i64 0) ∧ wl.cell? ⟨w10.heap.size, 1, none⟩ = some (.int .i64 (L.length : Int)) ∧ wl.cell? ⟨w10.heap.size, 2, none⟩ = some (.int .i64 m) ∧ wl.cell? ⟨w10.heap.size, 3, none⟩ = some (.int .i64 (L.length : Int)) ∧ wl.cell? ⟨w10.heap.size, 4, none⟩ = some (.bool false) ∧ wl.cell? ⟨w6.heap.size, 0, none⟩ = some (.int .i64 b.seg) ∧ wl.cell? ⟨w6.heap.size, 1, none⟩ = some (.int .i64 b.doc) ∧ wl.cell? ⟨w6.heap.size, 2, none⟩ = some (.int .i64 b.cmp) ∧ wl.cell? ⟨w6.heap.size, 3, none⟩ = some (.int .i64 b.off) ∧ wl.cell? ⟨w6.heap.size, 4, none⟩ = some (.bool b.gone) ∧ wl.cell? ⟨w7.heap.size, 0, none⟩ = some (.slice A1 n1 c1) := ⟨t0, t1, t2, t3, t4, u0, u1, u2, u3, u4, s0⟩
              refine hK.out _ _ hH (fun _ => ?_)
              clear hK K
              (try simp only [Act.put, List.setIfInBounds_toArray, List.set_cons_zero, List.set_cons_succ])
              refine Rt.take (i := 24) (d := 129) (v := .bool true) rfl rfl (by kernel_rfl) (by kernel_rfl) (by kernel_rfl) (fun _ _ _ h => h) (Or.inl ⟨by rfl, ?_⟩) hH ?_
              · rintro w' ⟨s0, s1, s2, s3, s4, s5, s6, s7, s8, s9, s10⟩
                go_simp
              (try simp only [List.setIfInBounds_toArray, List.set_cons_zero, List.set_cons_succ])
              refine Rt.take (i := 25) (d := 130) (v := .bool true) rfl rfl (by kernel_rfl) (by kernel_rfl) (by kernel_rfl) (fun _ _ _ h => h) (Or.inl ⟨by rfl, ?_⟩) hH ?_
              · rintro w' ⟨s0, s1, s2, s3, s4, s5, s6, s7, s8, s9, s10⟩
                go_simp
              (try simp only [List.setIfInBounds_toArray, List.set_cons_zero, List.set_cons_succ])
              refine Rt.take (i := 26) (d := 131) (v := .bool true) rfl rfl (by kernel_rfl) (by kernel_rfl) (by kernel_rfl) (fun _ _ _ h => h) (Or.inl ⟨by rfl, ?_⟩) hH ?_
              · rintro w' ⟨s0, s1, s2, s3, s4, s5, s6, s7, s8, s9, s10⟩
                go_simp
              (try simp only [List.setIfInBounds_toArray, List.set_cons_zero, List.set_cons_succ])
              refine Rt.take (i := 27) (d := 132) (v := .bool false) rfl rfl (by kernel_rfl) (by kernel_rfl) (by kernel_rfl) (fun _ _ _ h => h) (Or.inl ⟨by rfl, ?_⟩) hH ?_
              · rintro w' ⟨s0, s1, s2, s3, s4, s5, s6, s7, s8, s9, s10⟩
                go_simp
              (try simp only [List.setIfInBounds_toArray, List.set_cons_zero, List.set_cons_succ])
              refine Rt.take (i := 28) (d := 133) (v := .bool true) rfl rfl (by kernel_rfl) (by kernel_rfl) (by kernel_rfl) (fun _ _ _ h => h) (Or.inl ⟨by rfl, ?_⟩) hH ?_
              · rintro w' ⟨s0, s1, s2, s3, s4, s5, s6, s7, s8, s9, s10⟩
                go_simp
              (try simp only [List.setIfInBounds_toArray, List.set_cons_zero, List.set_cons_succ])
              refine Rt.take (i := 29) (d := 134) (v := .bool true) rfl rfl (by kernel_rfl) (by kernel_rfl) (by kernel_rfl) (fun _ _ _ h => h) (Or.inl ⟨by rfl, ?_⟩) hH ?_
              · rintro w' ⟨s0, s1, s2, s3, s4, s5, s6, s7, s8, s9, s10⟩
                go_simp
              (try simp only [List.setIfInBounds_toArray, List.set_cons_zero, List.set_cons_succ])
              refine Rt.take (i := 30) (d := 135) (v := undef) rfl rfl (by kernel_rfl) (by kernel_rfl) (by kernel_rfl) (fun _ _ _ h => h) (Or.inr ⟨by rfl, rfl⟩) hH ?_
              (try simp only [List.setIfInBounds_toArray, List.set_cons_zero, List.set_cons_succ])
              refine Rt.take (i := 31) (d := 136) (v := undef) rfl rfl (by kernel_rfl) (by kernel_rfl) (by kernel_rfl) (fun _ _ _ h => h) (Or.inr ⟨by rfl, rfl⟩) hH ?_
              (try simp only [List.setIfInBounds_toArray, List.set_cons_zero, List.set_cons_succ])
              refine Rt.take (i := 32) (d := 137) (v := undef) rfl rfl (by kernel_rfl) (by kernel_rfl) (by kernel_rfl) (fun _ _ _ h => h) (Or.inr ⟨by rfl, rfl⟩) hH ?_
              (try simp only [List.setIfInBounds_toArray, List.set_cons_zero, List.set_cons_succ])
              refine Rt.take (i := 33) (d := 138) (v := undef) rfl rfl (by kernel_rfl) (by kernel_rfl) (by kernel_rfl) (fun _ _ _ h => h) (Or.inr ⟨by rfl, rfl⟩) hH ?_
              (try simp only [List.setIfInBounds_toArray, List.set_cons_zero, List.set_cons_succ])
              refine Rt.take (i := 34) (d := 139) (v := undef) rfl rfl (by kernel_rfl) (by kernel_rfl) (by kernel_rfl) (fun _ _ _ h => h) (Or.inr ⟨by rfl, rfl⟩) hH ?_
              (try simp only [List.setIfInBounds_toArray, List.set_cons_zero, List.set_cons_succ])
              refine Rt.take (i := 35) (d := 140) (v := undef) rfl rfl (by kernel_rfl) (by kernel_rfl) (by kernel_rfl) (fun _ _ _ h => h) (Or.inr ⟨by rfl, rfl⟩) hH ?_
              (try simp only [List.setIfInBounds_toArray, List.set_cons_zero, List.set_cons_succ])
              refine Rt.take (i := 36) (d := 141) (v := undef) rfl rfl (by kernel_rfl) (by kernel_rfl) (by kernel_rfl) (fun _ _ _ h => h) (Or.inr ⟨by rfl, rfl⟩) hH ?_
              (try simp only [List.setIfInBounds_toArray, List.set_cons_zero, List.set_cons_succ])
              refine Rt.take (i := 37) (d := 142) (v := .bool true) rfl rfl (by kernel_rfl) (by kernel_rfl) (by kernel_rfl) (fun _ _ _ h => h) (Or.inl ⟨by rfl, ?_⟩) hH ?_
              · rintro w' ⟨s0, s1, s2, s3, s4, s5, s6, s7, s8, s9, s10⟩
                go_simp
              (try simp only [List.setIfInBounds_toArray, List.set_cons_zero, List.set_cons_succ])
              refine Rt.take (i := 38) (d := 143) (v := .bool true) rfl rfl (by kernel_rfl) (by kernel_rfl) (by kernel_rfl) (fun _ _ _ h => h) (Or.inl ⟨by rfl, ?_⟩) hH ?_
              · rintro w' ⟨s0, s1, s2, s3, s4, s5, s6, s7, s8, s9, s10⟩
                go_simp
              (try simp only [List.setIfInBounds_toArray, List.set_cons_zero, List.set_cons_succ])
              refine Rt.take (i := 39) (d := 8) (v := .bool true) rfl rfl (by kernel_rfl) (by kernel_rfl) (by kernel_rfl) (fun _ _ _ h => h) (Or.inl ⟨by rfl, ?_⟩) hH ?_
              · rintro w' ⟨s0, s1, s2, s3, s4, s5, s6, s7, s8, s9, s10⟩
                go_simp
              (try simp only [List.setIfInBounds_toArray, List.set_cons_zero, List.set_cons_succ])
              refine wpAnyH_done (by kernel_rfl) ?_ _
              all_goals (
                go_wp2_with fail
                go_ret
                exact ⟨rfl, o7.out.bel.trans (hbr.mono o7.out.bel.size)⟩)
            · have Ch1 := Lib.hid fun (wx : World) (Ax : Option Addr) (nx cx : Nat) (h : Bw.St wx Ax nx cx X2) => (show Calls Tryd.prog 28 #[.agg #[.slice Ax nx cx], .int .i64 (L.length : Int)] wx fun e w' => e = .returned (.bool false) ∧ Below wx.heap.size wx w' by
                have := Bw.has_any Ax nx cx X2 (L.length : Int) wx h ⟨by omega, by omega⟩
                rwa [hX2, new_has hsq.out k m true (by omega) hwin2] at this)
              replace hX2 := Lib.hid hX2
              clear hwin2
              go_upto_region 21 with fail
              generalize hxd : w10.alloc (.cells #[.int .i64 b2.seg, .int .i64 b2.doc, .int .i64 b2.cmp, .int .i64 b2.off, .bool b2.gone] 47) = xd at *
              clear hxd
              replace b20 : Wd.Bx xd w10.heap.size 47 #[.int .i64 0, .int .i64 (L.length : Int), .int .i64 m, .int .i64 (L.length : Int), .bool true] := by
                have := b20
                rw [hb2.out] at this
                exact this
              have hbr : Below xd.heap.size xd xd.drew := (Below.refl _ _).drew
              have hs : (xd.cell? ⟨w10.heap.size, 0, none⟩ = some (.int .i64 0) ∧ xd.cell? ⟨w10.heap.size, 1, none⟩ = some (.int .i64 (L.length : Int)) ∧ xd.cell? ⟨w10.heap.size, 2, none⟩ = some (.int .i64 m) ∧ xd.cell? ⟨w10.heap.size, 3, none⟩ = some (.int .i64 (L.length : Int)) ∧ xd.cell? ⟨w10.heap.size, 4, none⟩ = some (.bool true)) ∧ (xd.cell? ⟨w6.heap.size, 0, none⟩ = some (.int .i64 b.seg) ∧ xd.cell? ⟨w6.heap.size, 1, none⟩ = some (.int .i64 b.doc) ∧ xd.cell? ⟨w6.heap.size, 2, none⟩ = some (.int .i64 b.cmp) ∧ xd.cell? ⟨w6.heap.size, 3, none⟩ = some (.int .i64 b.off) ∧ xd.cell? ⟨w6.heap.size, 4, none⟩ = some (.bool b.gone)) ∧ xd.cell? ⟨w7.heap.size, 0, none⟩ = some (.slice A1 n1 c1) := ⟨winc b20, winc K3.out.b16, K3.out.b18.cell 0⟩
              have hE := hE.out
              obtain ⟨u0, u1, u2, u3, u4⟩ := winc K3.out.b16
              obtain ⟨t0, t1, t2, t3, t4⟩ := winc b20
              have s0 : xd.cell? ⟨w7.heap.size, 0, none⟩ = some (.slice A1 n1 c1) := K3.out.b18.cell 0
              have hH : xd.drew.cell? ⟨w10.heap.size, 0, none⟩ = some (.int .i64 0) ∧ xd.drew.cell? ⟨w10.heap.size, 1, none⟩ = some (.int .i64 (L.length : Int)) ∧ xd.drew.cell? ⟨w10.heap.size, 2, none⟩ = some (.int .i64 m) ∧ xd.drew.cell? ⟨w10.heap.size, 3, none⟩ = some (.int .i64 (L.length : Int)) ∧ xd.drew.cell? ⟨w10.heap.size, 4, none⟩ = some (.bool true) ∧ xd.drew.cell? ⟨w6.heap.size, 0, none⟩ = some (.int .i64 b.seg) ∧ xd.drew.cell? ⟨w6.heap.size, 1, none⟩ = some (.int .i64 b.doc) ∧ xd.drew.cell? ⟨w6.heap.size, 2, none⟩ = some (.int .i64 b.cmp) ∧ xd.drew.cell? ⟨w6.heap.size, 3, none⟩ = some (.int .i64 b.off) ∧ xd.drew.cell? ⟨w6.heap.size, 4, none⟩ = some (.bool b.gone) ∧ xd.drew.cell? ⟨w7.heap.size, 0, none⟩ = some (.slice A1 n1 c1) := ⟨t0, t1, t2, t3, t4, u0, u1, u2, u3, u4, s0⟩
              clear hs
              refine wp_region_any (by kernel_rfl) ?_
              refine wpAny_of_held (S := fun w' => w'.cell? ⟨w10.heap.size, 0, none⟩ = some (.int .i64 0) ∧ w'.cell? ⟨w10.heap.size, 1, none⟩ = some (.int .i64 (L.length : Int)) ∧ w'.cell? ⟨w10.heap.size, 2, none⟩ = some (.int .i64 m) ∧ w'.cell? ⟨w10.heap.size, 3, none⟩ = some (.int .i64 (L.length : Int)) ∧ w'.cell? ⟨w10.heap.size, 4, none⟩ = some (.bool true) ∧ w'.cell? ⟨w6.heap.size, 0, none⟩ = some (.int .i64 b.seg) ∧ w'.cell? ⟨w6.heap.size, 1, none⟩ = some (.int .i64 b.doc) ∧ w'.cell? ⟨w6.heap.size, 2, none⟩ = some (.int .i64 b.cmp) ∧ w'.cell? ⟨w6.heap.size, 3, none⟩ = some (.int .i64 b.off) ∧ w'.cell? ⟨w6.heap.size, 4, none⟩ = some (.bool b.gone) ∧ w'.cell? ⟨w7.heap.size, 0, none⟩ = some (.slice A1 n1 c1)) _ _ _ _ ?_
              change wpAnyH _ _ _ _ _ 40 (Array.replicate 40 false) _ xd.drew
              refine Rt.take (i := 0) (d := 105) (v := .pointer (some ⟨w10.heap.size, 0, none⟩)) rfl rfl (by kernel_rfl) (by kernel_rfl) (by kernel_rfl) (fun _ _ _ h => h) (Or.inl ⟨by rfl, ?_⟩) hH ?_
              · rintro w' ⟨s0, s1, s2, s3, s4, s5, s6, s7, s8, s9, s10⟩
                go_simp
              (try simp only [List.setIfInBounds_toArray, List.set_cons_zero, List.set_cons_succ])
              refine Rt.take (i := 1) (d := 106) (v := .agg #[.int .i64 0, .int .i64 (L.length : Int)]) rfl rfl (by kernel_rfl) (by kernel_rfl) (by kernel_rfl) (fun _ _ _ h => h) (Or.inl ⟨by rfl, ?_⟩) hH ?_
              · rintro w' ⟨s0, s1, s2, s3, s4, s5, s6, s7, s8, s9, s10⟩
                go_simp
              (try simp only [List.setIfInBounds_toArray, List.set_cons_zero, List.set_cons_succ])
              refine Rt.take (i := 2) (d := 107) (v := .int .i64 (L.length : Int)) rfl rfl (by kernel_rfl) (by kernel_rfl) (by kernel_rfl) (fun _ _ _ h => h) (Or.inl ⟨by rfl, ?_⟩) hH ?_
              · rintro w' ⟨s0, s1, s2, s3, s4, s5, s6, s7, s8, s9, s10⟩
                go_simp
              (try simp only [List.setIfInBounds_toArray, List.set_cons_zero, List.set_cons_succ])
              refine Rt.take (i := 3) (d := 108) (v := .agg #[.int .i64 0, .int .i64 (L.length : Int)]) rfl rfl (by kernel_rfl) (by kernel_rfl) (by kernel_rfl) (fun _ _ _ h => h) (Or.inl ⟨by rfl, ?_⟩) hH ?_
              · rintro w' ⟨s0, s1, s2, s3, s4, s5, s6, s7, s8, s9, s10⟩
                go_simp
              (try simp only [List.setIfInBounds_toArray, List.set_cons_zero, List.set_cons_succ])
              refine Rt.take (i := 4) (d := 109) (v := .bool true) rfl rfl (by kernel_rfl) (by kernel_rfl) (by kernel_rfl) (fun _ _ _ h => h) (Or.inl ⟨by rfl, ?_⟩) hH ?_
              · rintro w' ⟨s0, s1, s2, s3, s4, s5, s6, s7, s8, s9, s10⟩
                go_simp
              (try simp only [List.setIfInBounds_toArray, List.set_cons_zero, List.set_cons_succ])
              refine Rt.take (i := 5) (d := 110) (v := .bool true) rfl rfl (by kernel_rfl) (by kernel_rfl) (by kernel_rfl) (fun _ _ _ h => h) (Or.inl ⟨by rfl, ?_⟩) hH ?_
              · rintro w' ⟨s0, s1, s2, s3, s4, s5, s6, s7, s8, s9, s10⟩
                go_simp
              (try simp only [List.setIfInBounds_toArray, List.set_cons_zero, List.set_cons_succ])
              refine Rt.take (i := 6) (d := 111) (v := .pointer (some ⟨w10.heap.size, 2, none⟩)) rfl rfl (by kernel_rfl) (by kernel_rfl) (by kernel_rfl) (fun _ _ _ h => h) (Or.inl ⟨by rfl, ?_⟩) hH ?_
              · rintro w' ⟨s0, s1, s2, s3, s4, s5, s6, s7, s8, s9, s10⟩
                go_simp
              (try simp only [List.setIfInBounds_toArray, List.set_cons_zero, List.set_cons_succ])
              refine Rt.take (i := 7) (d := 112) (v := .int .i64 m) rfl rfl (by kernel_rfl) (by kernel_rfl) (by kernel_rfl) (fun _ _ _ h => h) (Or.inl ⟨by rfl, ?_⟩) hH ?_
              · rintro w' ⟨s0, s1, s2, s3, s4, s5, s6, s7, s8, s9, s10⟩
                go_simp
              (try simp only [List.setIfInBounds_toArray, List.set_cons_zero, List.set_cons_succ])
              refine Rt.take (i := 8) (d := 113) (v := .int .i64 m) rfl rfl (by kernel_rfl) (by kernel_rfl) (by kernel_rfl) (fun _ _ _ h => h) (Or.inl ⟨by rfl, ?_⟩) hH ?_
              · rintro w' ⟨s0, s1, s2, s3, s4, s5, s6, s7, s8, s9, s10⟩
                go_simp
              (try simp only [List.setIfInBounds_toArray, List.set_cons_zero, List.set_cons_succ])
              refine Rt.take (i := 9) (d := 114) (v := .bool true) rfl rfl (by kernel_rfl) (by kernel_rfl) (by kernel_rfl) (fun _ _ _ h => h) (Or.inl ⟨by rfl, ?_⟩) hH ?_
              · rintro w' ⟨s0, s1, s2, s3, s4, s5, s6, s7, s8, s9, s10⟩
                go_simp
              (try simp only [List.setIfInBounds_toArray, List.set_cons_zero, List.set_cons_succ])
              refine Rt.take (i := 10) (d := 115) (v := .bool true) rfl rfl (by kernel_rfl) (by kernel_rfl) (by kernel_rfl) (fun _ _ _ h => h) (Or.inl ⟨by rfl, ?_⟩) hH ?_
              · rintro w' ⟨s0, s1, s2, s3, s4, s5, s6, s7, s8, s9, s10⟩
                go_simp
              (try simp only [List.setIfInBounds_toArray, List.set_cons_zero, List.set_cons_succ])
              refine Rt.take (i := 11) (d := 116) (v := .bool true) rfl rfl (by kernel_rfl) (by kernel_rfl) (by kernel_rfl) (fun _ _ _ h => h) (Or.inl ⟨by rfl, ?_⟩) hH ?_
              · rintro w' ⟨s0, s1, s2, s3, s4, s5, s6, s7, s8, s9, s10⟩
                go_simp
              (try simp only [List.setIfInBounds_toArray, List.set_cons_zero, List.set_cons_succ])
              refine Rt.take (i := 12) (d := 117) (v := .pointer (some ⟨w10.heap.size, 4, none⟩)) rfl rfl (by kernel_rfl) (by kernel_rfl) (by kernel_rfl) (fun _ _ _ h => h) (Or.inl ⟨by rfl, ?_⟩) hH ?_
              · rintro w' ⟨s0, s1, s2, s3, s4, s5, s6, s7, s8, s9, s10⟩
                go_simp
              (try simp only [List.setIfInBounds_toArray, List.set_cons_zero, List.set_cons_succ])
              refine Rt.take (i := 13) (d := 118) (v := .bool true) rfl rfl (by kernel_rfl) (by kernel_rfl) (by kernel_rfl) (fun _ _ _ h => h) (Or.inl ⟨by rfl, ?_⟩) hH ?_
              · rintro w' ⟨s0, s1, s2, s3, s4, s5, s6, s7, s8, s9, s10⟩
                go_simp
              (try simp only [List.setIfInBounds_toArray, List.set_cons_zero, List.set_cons_succ])
              refine Rt.take (i := 14) (d := 119) (v := .bool true) rfl rfl (by kernel_rfl) (by kernel_rfl) (by kernel_rfl) (fun _ _ _ h => h) (Or.inl ⟨by rfl, ?_⟩) hH ?_
              · rintro w' ⟨s0, s1, s2, s3, s4, s5, s6, s7, s8, s9, s10⟩
                go_simp
              (try simp only [List.setIfInBounds_toArray, List.set_cons_zero, List.set_cons_succ])
              refine Rt.take (i := 15) (d := 120) (v := .bool true) rfl rfl (by kernel_rfl) (by kernel_rfl) (by kernel_rfl) (fun _ _ _ h => h) (Or.inl ⟨by rfl, ?_⟩) hH ?_
              · rintro w' ⟨s0, s1, s2, s3, s4, s5, s6, s7, s8, s9, s10⟩
                go_simp
              (try simp only [List.setIfInBounds_toArray, List.set_cons_zero, List.set_cons_succ])
              refine Rt.take (i := 16) (d := 121) (v := .bool true) rfl rfl (by kernel_rfl) (by kernel_rfl) (by kernel_rfl) (fun _ _ _ h => h) (Or.inl ⟨by rfl, ?_⟩) hH ?_
              · rintro w' ⟨s0, s1, s2, s3, s4, s5, s6, s7, s8, s9, s10⟩
                go_simp
              (try simp only [List.setIfInBounds_toArray, List.set_cons_zero, List.set_cons_succ])
              refine Rt.take (i := 17) (d := 122) (v := .bool true) rfl rfl (by kernel_rfl) (by kernel_rfl) (by kernel_rfl) (fun _ _ _ h => h) (Or.inl ⟨by rfl, ?_⟩) hH ?_
              · rintro w' ⟨s0, s1, s2, s3, s4, s5, s6, s7, s8, s9, s10⟩
                go_simp
              (try simp only [List.setIfInBounds_toArray, List.set_cons_zero, List.set_cons_succ])
              refine Rt.take (i := 18) (d := 123) (v := .pointer (some ⟨t, 0, none⟩)) rfl rfl (by kernel_rfl) (by kernel_rfl) (by kernel_rfl) (fun _ _ _ h => h) (Or.inl ⟨by rfl, ?_⟩) hH ?_
              · rintro w' ⟨s0, s1, s2, s3, s4, s5, s6, s7, s8, s9, s10⟩
                go_simp
              (try simp only [List.setIfInBounds_toArray, List.set_cons_zero, List.set_cons_succ])
              refine Rt.take (i := 20) (d := 125) (v := .int .i64 (L.length : Int)) rfl rfl (by kernel_rfl) (by kernel_rfl) (by kernel_rfl) (fun _ _ _ h => h) (Or.inl ⟨by rfl, ?_⟩) hH ?_
              · rintro w' ⟨s0, s1, s2, s3, s4, s5, s6, s7, s8, s9, s10⟩
                go_simp
              (try simp only [List.setIfInBounds_toArray, List.set_cons_zero, List.set_cons_succ])
              refine Rt.take (i := 22) (d := 127) (v := .bool true) rfl rfl (by kernel_rfl) (by kernel_rfl) (by kernel_rfl) (fun _ _ _ h => h) (Or.inl ⟨by rfl, ?_⟩) hH ?_
              · rintro w' ⟨s0, s1, s2, s3, s4, s5, s6, s7, s8, s9, s10⟩
                go_simp
              (try simp only [List.setIfInBounds_toArray, List.set_cons_zero, List.set_cons_succ])
              refine Rt.take (i := 23) (d := 128) (v := .bool false) rfl rfl (by kernel_rfl) (by kernel_rfl) (by kernel_rfl) (fun _ _ _ h => h) (Or.inl ⟨by rfl, ?_⟩) hH ?_
              · rintro w' ⟨s0, s1, s2, s3, s4, s5, s6, s7, s8, s9, s10⟩
                go_simp
              (try simp only [List.setIfInBounds_toArray, List.set_cons_zero, List.set_cons_succ])
              refine wpAnyH_ready (rs := [19]) (by kernel_rfl) (by simp) ?_
              refine AllReadyH.cons rfl (fun K hK => ?_) AllReadyH.nil
              go_simp
              refine (CV3.out _ _ _ (by omega) (o7.out.below hbr)).mono ?_
              rintro e wv ⟨A3, n3, c3, rfl, hst3, hbv⟩
              replace hbr := hbr.trans (hbv.mono hbr.size)
              clear hH
              obtain ⟨t0, t1, t2, t3, t4⟩ := winc (b20.below b20.lt hbr)
              obtain ⟨u0, u1, u2, u3, u4⟩ := winc (K3.out.below hbr).b16
              have s0 : wv.cell? ⟨w7.heap.size, 0, none⟩ = some (.slice A1 n1 c1) := (K3.out.below hbr).b18.cell 0
              have hH : wv.cell? ⟨w10.heap.size, 0, none⟩ = some (.int .i64 0) ∧ wv.cell? ⟨w10.heap.size, 1, none⟩ = some (.int .i64 (L.length : Int)) ∧ wv.cell? ⟨w10.heap.size, 2, none⟩ = some (.int .i64 m) ∧ wv.cell? ⟨w10.heap.size, 3, none⟩ = some (.int .i64 (L.length : Int)) ∧ wv.cell? ⟨w10.heap.size, 4, none⟩ = some (.bool true) ∧ wv.cell? ⟨w6.heap.size, 0, none⟩ = some (.int .i64 b.seg) ∧ wv.cell? ⟨w6.heap.size, 1, none⟩ = some (.int .i64 b.doc) ∧ wv.cell? ⟨w6.heap.size, 2, none⟩ = some (.int .i64 b.cmp) ∧ wv.cell? ⟨w6.heap.size, 3, none⟩ = some (.int .i64 b.off) ∧ wv.cell? ⟨w6.heap.size, 4, none⟩ = some (.bool b.gone) ∧ wv.cell? ⟨w7.heap.size, 0, none⟩ = some (.slice A1 n1 c1) := ⟨t0, t1, t2, t3, t4, u0, u1, u2, u3, u4, s0⟩
              refine hK.out _ _ hH (fun _ => ?_)
              clear hK K
              (try simp only [Act.put, List.setIfInBounds_toArray, List.set_cons_zero, List.set_cons_succ])
              refine wpAnyH_ready (rs := [21]) (by kernel_rfl) (by simp) ?_
              refine AllReadyH.cons rfl (fun K hK => ?_) AllReadyH.nil
              go_simp
              refine (Ch1.out _ A3 n3 c3 hst3).mono ?_
              rintro e wl ⟨rfl, hbl⟩
              replace hbr := hbr.trans (hbl.mono hbr.size)
              clear hH
              obtain ⟨t0, t1, t2, t3, t4⟩ := winc (b20.below b20.lt hbr)
              obtain ⟨u0, u1, u2, u3, u4⟩ := winc (K3.out.below hbr).b16
              have s0 : wl.cell? ⟨w7.heap.size, 0, none⟩ = some (.slice A1 n1 c1) := (K3.out.below hbr).b18.cell 0
              have hH : wl.cell? ⟨w10.heap.size, 0, none⟩ = some (.int .i64 0) ∧ wl.cell? ⟨w10.heap.size, 1, none⟩ = some (.int .i64 (L.length : Int)) ∧ wl.cell? ⟨w10.heap.size, 2, none⟩ = some (.int .i64 m) ∧ wl.cell? ⟨w10.heap.size, 3, none⟩ = some (.int .i64 (L.length : Int)) ∧ wl.cell? ⟨w10.heap.size, 4, none⟩ = some (.bool true) ∧ wl.cell? ⟨w6.heap.size, 0, none⟩ = some (.int .i64 b.seg) ∧ wl.cell? ⟨w6.heap.size, 1, none⟩ = some (.int .i64 b.doc) ∧ wl.cell? ⟨w6.heap.size, 2, none⟩ = some (.int .i64 b.cmp) ∧ wl.cell? ⟨w6.heap.size, 3, none⟩ = some (.int .i64 b.off) ∧ wl.cell? ⟨w6.heap.size, 4, none⟩ = some (.bool b.gone) ∧ wl.cell? ⟨w7.heap.size, 0, none⟩ = some (.slice A1 n1 c1) := ⟨t0, t1, t2, t3, t4, u0, u1, u2, u3, u4, s0⟩
              refine hK.out _ _ hH (fun _ => ?_)
              clear hK K
              (try simp only [Act.put, List.setIfInBounds_toArray, List.set_cons_zero, List.set_cons_succ])
              refine Rt.take (i := 24) (d := 129) (v := .bool true) rfl rfl (by kernel_rfl) (by kernel_rfl) (by kernel_rfl) (fun _ _ _ h => h) (Or.inl ⟨by rfl, ?_⟩) hH ?_
              · rintro w' ⟨s0, s1, s2, s3, s4, s5, s6, s7, s8, s9, s10⟩
                go_simp
              (try simp only [List.setIfInBounds_toArray, List.set_cons_zero, List.set_cons_succ])
              refine Rt.take (i := 25) (d := 130) (v := .bool true) rfl rfl (by kernel_rfl) (by kernel_rfl) (by kernel_rfl) (fun _ _ _ h => h) (Or.inl ⟨by rfl, ?_⟩) hH ?_
              · rintro w' ⟨s0, s1, s2, s3, s4, s5, s6, s7, s8, s9, s10⟩
                go_simp
              (try simp only [List.setIfInBounds_toArray, List.set_cons_zero, List.set_cons_succ])
              refine Rt.take (i := 26) (d := 131) (v := .bool true) rfl rfl (by kernel_rfl) (by kernel_rfl) (by kernel_rfl) (fun _ _ _ h => h) (Or.inl ⟨by rfl, ?_⟩) hH ?_
              · rintro w' ⟨s0, s1, s2, s3, s4, s5, s6, s7, s8, s9, s10⟩
                go_simp
              (try simp only [List.setIfInBounds_toArray, List.set_cons_zero, List.set_cons_succ])
              refine Rt.take (i := 27) (d := 132) (v := .bool false) rfl rfl (by kernel_rfl) (by kernel_rfl) (by kernel_rfl) (fun _ _ _ h => h) (Or.inl ⟨by rfl, ?_⟩) hH ?_
              · rintro w' ⟨s0, s1, s2, s3, s4, s5, s6, s7, s8, s9, s10⟩
                go_simp
              (try simp only [List.setIfInBounds_toArray, List.set_cons_zero, List.set_cons_succ])
              refine Rt.take (i := 28) (d := 133) (v := .bool true) rfl rfl (by kernel_rfl) (by kernel_rfl) (by kernel_rfl) (fun _ _ _ h => h) (Or.inl ⟨by rfl, ?_⟩) hH ?_
              · rintro w' ⟨s0, s1, s2, s3, s4, s5, s6, s7, s8, s9, s10⟩
                go_simp
              (try simp only [List.setIfInBounds_toArray, List.set_cons_zero, List.set_cons_succ])
              refine Rt.take (i := 29) (d := 134) (v := .bool true) rfl rfl (by kernel_rfl) (by kernel_rfl) (by kernel_rfl) (fun _ _ _ h => h) (Or.inl ⟨by rfl, ?_⟩) hH ?_
              · rintro w' ⟨s0, s1, s2, s3, s4, s5, s6, s7, s8, s9, s10⟩
                go_simp
              (try simp only [List.setIfInBounds_toArray, List.set_cons_zero, List.set_cons_succ])
              refine Rt.take (i := 30) (d := 135) (v := undef) rfl rfl (by kernel_rfl) (by kernel_rfl) (by kernel_rfl) (fun _ _ _ h => h) (Or.inr ⟨by rfl, rfl⟩) hH ?_
              (try simp only [List.setIfInBounds_toArray, List.set_cons_zero, List.set_cons_succ])
              refine Rt.take (i := 31) (d := 136) (v := undef) rfl rfl (by kernel_rfl) (by kernel_rfl) (by kernel_rfl) (fun _ _ _ h => h) (Or.inr ⟨by rfl, rfl⟩) hH ?_
              (try simp only [List.setIfInBounds_toArray, List.set_cons_zero, List.set_cons_succ])
              refine Rt.take (i := 32) (d := 137) (v := undef) rfl rfl (by kernel_rfl) (by kernel_rfl) (by kernel_rfl) (fun _ _ _ h => h) (Or.inr ⟨by rfl, rfl⟩) hH ?_
              (try simp only [List.setIfInBounds_toArray, List.set_cons_zero, List.set_cons_succ])
              refine Rt.take (i := 33) (d := 138) (v := undef) rfl rfl (by kernel_rfl) (by kernel_rfl) (by kernel_rfl) (fun _ _ _ h => h) (Or.inr ⟨by rfl, rfl⟩) hH ?_
              (try simp only [List.setIfInBounds_toArray, List.set_cons_zero, List.set_cons_succ])
              refine Rt.take (i := 34) (d := 139) (v := undef) rfl rfl (by kernel_rfl) (by kernel_rfl) (by kernel_rfl) (fun _ _ _ h => h) (Or.inr ⟨by rfl, rfl⟩) hH ?_
              (try simp only [List.setIfInBounds_toArray, List.set_cons_zero, List.set_cons_succ])
              refine Rt.take (i := 35) (d := 140) (v := undef) rfl rfl (by kernel_rfl) (by kernel_rfl) (by kernel_rfl) (fun _ _ _ h => h) (Or.inr ⟨by rfl, rfl⟩) hH ?_
              (try simp only [List.setIfInBounds_toArray, List.set_cons_zero, List.set_cons_succ])
              refine Rt.take (i := 36) (d := 141) (v := undef) rfl rfl (by kernel_rfl) (by kernel_rfl) (by kernel_rfl) (fun _ _ _ h => h) (Or.inr ⟨by rfl, rfl⟩) hH ?_
              (try simp only [List.setIfInBounds_toArray, List.set_cons_zero, List.set_cons_succ])
              refine Rt.take (i := 37) (d := 142) (v := .bool true) rfl rfl (by kernel_rfl) (by kernel_rfl) (by kernel_rfl) (fun _ _ _ h => h) (Or.inl ⟨by rfl, ?_⟩) hH ?_
              · rintro w' ⟨s0, s1, s2, s3, s4, s5, s6, s7, s8, s9, s10⟩
                go_simp
              (try simp only [List.setIfInBounds_toArray, List.set_cons_zero, List.set_cons_succ])
              refine Rt.take (i := 38) (d := 143) (v := .bool true) rfl rfl (by kernel_rfl) (by kernel_rfl) (by kernel_rfl) (fun _ _ _ h => h) (Or.inl ⟨by rfl, ?_⟩) hH ?_
              · rintro w' ⟨s0, s1, s2, s3, s4, s5, s6, s7, s8, s9, s10⟩
                go_simp
              (try simp only [List.setIfInBounds_toArray, List.set_cons_zero, List.set_cons_succ])
              refine Rt.take (i := 39) (d := 8) (v := .bool true) rfl rfl (by kernel_rfl) (by kernel_rfl) (by kernel_rfl) (fun _ _ _ h => h) (Or.inl ⟨by rfl, ?_⟩) hH ?_
              · rintro w' ⟨s0, s1, s2, s3, s4, s5, s6, s7, s8, s9, s10⟩
                go_simp
              (try simp only [List.setIfInBounds_toArray, List.set_cons_zero, List.set_cons_succ])
              refine wpAnyH_done (by kernel_rfl) ?_ _
              all_goals (
                go_wp2_with fail
                go_ret
                exact ⟨rfl, o7.out.bel.trans (hbr.mono o7.out.bel.size)⟩)
          · have hwin1 : win true L (vI k) = some b := by
              rcases hq : win true L (vI k) with _ | b'
              · have := HTT.out
                rw [hq] at this
                cases this
              · have := HB.out
                unfold best at this
                rw [hq] at this
                rw [this]
                rfl
            have hle : ¬ m < b.cmp := fun z => hbm ⟨rfl, z⟩
            have hdoc := seq_mem hsq.out (win_mem hwin1).1
            have Ch2 := Lib.hid fun (wx : World) (Ax : Option Addr) (nx cx : Nat) (h : Bw.St wx Ax nx cx X2) => (show Calls Tryd.prog 28 #[.agg #[.slice Ax nx cx], .int .i64 b.doc] wx fun e w' => e = .returned (.bool false) ∧ Below wx.heap.size wx w' by
              have := Bw.has_any Ax nx cx X2 b.doc wx h ⟨by omega, by omega⟩
              rwa [hX2, old_has hsq.out k m d hwin1 hwin2] at this)
            have HW := Lib.hid hwin1
            clear hwin1 hbm hdoc
            cases d
            · have Ch1 := Lib.hid fun (wx : World) (Ax : Option Addr) (nx cx : Nat) (h : Bw.St wx Ax nx cx X2) => (show Calls Tryd.prog 28 #[.agg #[.slice Ax nx cx], .int .i64 (L.length : Int)] wx fun e w' => e = .returned (.bool true) ∧ Below wx.heap.size wx w' by
                have := Bw.has_any Ax nx cx X2 (L.length : Int) wx h ⟨by omega, by omega⟩
                rwa [hX2, new_has hsq.out k m false (by omega) hwin2] at this)
              replace hX2 := Lib.hid hX2
              clear hwin2
              go_upto_region 21 with fail
              generalize hxd : w10.alloc (.cells #[.int .i64 b2.seg, .int .i64 b2.doc, .int .i64 b2.cmp, .int .i64 b2.off, .bool b2.gone] 47) = xd at *
              clear hxd
              replace b20 : Wd.Bx xd w10.heap.size 47 #[.int .i64 0, .int .i64 (L.length : Int), .int .i64 m, .int .i64 (L.length : Int), .bool false] := by
                have := b20
                rw [hb2.out] at this
                exact this
              have hbr : Below xd.heap.size xd xd.drew := (Below.refl _ _).drew
              have hs : (xd.cell? ⟨w10.heap.size, 0, none⟩ = some (.int .i64 0) ∧ xd.cell? ⟨w10.heap.size, 1, none⟩ = some (.int .i64 (L.length : Int)) ∧ xd.cell? ⟨w10.heap.size, 2, none⟩ = some (.int .i64 m) ∧ xd.cell? ⟨w10.heap.size, 3, none⟩ = some (.int .i64 (L.length : Int)) ∧ xd.cell? ⟨w10.heap.size, 4, none⟩ = some (.bool false)) ∧ (xd.cell? ⟨w6.heap.size, 0, none⟩ = some (.int .i64 b.seg) ∧ xd.cell? ⟨w6.heap.size, 1, none⟩ = some (.int .i64 b.doc) ∧ xd.cell? ⟨w6.heap.size, 2, none⟩ = some (.int .i64 b.cmp) ∧ xd.cell? ⟨w6.heap.size, 3, none⟩ = some (.int .i64 b.off) ∧ xd.cell? ⟨w6.heap.size, 4, none⟩ = some (.bool b.gone)) ∧ xd.cell? ⟨w7.heap.size, 0, none⟩ = some (.slice A1 n1 c1) := ⟨winc b20, winc K3.out.b16, K3.out.b18.cell 0⟩
              have hE := hE.out
              go_region_held3 (fun w' => (w'.cell? ⟨w10.heap.size, 0, none⟩ = some (.int .i64 0) ∧ w'.cell? ⟨w10.heap.size, 1, none⟩ = some (.int .i64 (L.length : Int)) ∧ w'.cell? ⟨w10.heap.size, 2, none⟩ = some (.int .i64 m) ∧ w'.cell? ⟨w10.heap.size, 3, none⟩ = some (.int .i64 (L.length : Int)) ∧ w'.cell? ⟨w10.heap.size, 4, none⟩ = some (.bool false)) ∧ (w'.cell? ⟨w6.heap.size, 0, none⟩ = some (.int .i64 b.seg) ∧ w'.cell? ⟨w6.heap.size, 1, none⟩ = some (.int .i64 b.doc) ∧ w'.cell? ⟨w6.heap.size, 2, none⟩ = some (.int .i64 b.cmp) ∧ w'.cell? ⟨w6.heap.size, 3, none⟩ = some (.int .i64 b.off) ∧ w'.cell? ⟨w6.heap.size, 4, none⟩ = some (.bool b.gone)) ∧ w'.cell? ⟨w7.heap.size, 0, none⟩ = some (.slice A1 n1 c1))
                (first | exact hs | go_keep)
                (first | (go_at_call 21; (with_reducible refine (CV3.out _ _ _ (by omega) (o7.out.below hbr)).mono ?_); rintro e wv ⟨A3, n3, c3, rfl, hst3, hbv⟩; replace hbr := hbr.trans (hbv.mono hbr.size); have hs : (wv.cell? ⟨w10.heap.size, 0, none⟩ = some (.int .i64 0) ∧ wv.cell? ⟨w10.heap.size, 1, none⟩ = some (.int .i64 (L.length : Int)) ∧ wv.cell? ⟨w10.heap.size, 2, none⟩ = some (.int .i64 m) ∧ wv.cell? ⟨w10.heap.size, 3, none⟩ = some (.int .i64 (L.length : Int)) ∧ wv.cell? ⟨w10.heap.size, 4, none⟩ = some (.bool false)) ∧ (wv.cell? ⟨w6.heap.size, 0, none⟩ = some (.int .i64 b.seg) ∧ wv.cell? ⟨w6.heap.size, 1, none⟩ = some (.int .i64 b.doc) ∧ wv.cell? ⟨w6.heap.size, 2, none⟩ = some (.int .i64 b.cmp) ∧ wv.cell? ⟨w6.heap.size, 3, none⟩ = some (.int .i64 b.off) ∧ wv.cell? ⟨w6.heap.size, 4, none⟩ = some (.bool b.gone)) ∧ wv.cell? ⟨w7.heap.size, 0, none⟩ = some (.slice A1 n1 c1) := ⟨winc (b20.below b20.lt hbr), winc (K3.out.below hbr).b16, (K3.out.below hbr).b18.cell 0⟩) | (go_at_call 28; (with_reducible refine (Ch1.out _ A3 n3 c3 hst3).mono ?_); rintro e wl ⟨rfl, hbl⟩; replace hbr := hbr.trans (hbl.mono hbr.size); have hs : (wl.cell? ⟨w10.heap.size, 0, none⟩ = some (.int .i64 0) ∧ wl.cell? ⟨w10.heap.size, 1, none⟩ = some (.int .i64 (L.length : Int)) ∧ wl.cell? ⟨w10.heap.size, 2, none⟩ = some (.int .i64 m) ∧ wl.cell? ⟨w10.heap.size, 3, none⟩ = some (.int .i64 (L.length : Int)) ∧ wl.cell? ⟨w10.heap.size, 4, none⟩ = some (.bool false)) ∧ (wl.cell? ⟨w6.heap.size, 0, none⟩ = some (.int .i64 b.seg) ∧ wl.cell? ⟨w6.heap.size, 1, none⟩ = some (.int .i64 b.doc) ∧ wl.cell? ⟨w6.heap.size, 2, none⟩ = some (.int .i64 b.cmp) ∧ wl.cell? ⟨w6.heap.size, 3, none⟩ = some (.int .i64 b.off) ∧ wl.cell? ⟨w6.heap.size, 4, none⟩ = some (.bool b.gone)) ∧ wl.cell? ⟨w7.heap.size, 0, none⟩ = some (.slice A1 n1 c1) := ⟨winc (b20.below b20.lt hbr), winc (K3.out.below hbr).b16, (K3.out.below hbr).b18.cell 0⟩) | (go_at_call 28; (with_reducible refine (Ch2.out _ A3 n3 c3 hst3).mono ?_); rintro e wl ⟨rfl, hbl⟩; replace hbr := hbr.trans (hbl.mono hbr.size); have hs : (wl.cell? ⟨w10.heap.size, 0, none⟩ = some (.int .i64 0) ∧ wl.cell? ⟨w10.heap.size, 1, none⟩ = some (.int .i64 (L.length : Int)) ∧ wl.cell? ⟨w10.heap.size, 2, none⟩ = some (.int .i64 m) ∧ wl.cell? ⟨w10.heap.size, 3, none⟩ = some (.int .i64 (L.length : Int)) ∧ wl.cell? ⟨w10.heap.size, 4, none⟩ = some (.bool false)) ∧ (wl.cell? ⟨w6.heap.size, 0, none⟩ = some (.int .i64 b.seg) ∧ wl.cell? ⟨w6.heap.size, 1, none⟩ = some (.int .i64 b.doc) ∧ wl.cell? ⟨w6.heap.size, 2, none⟩ = some (.int .i64 b.cmp) ∧ wl.cell? ⟨w6.heap.size, 3, none⟩ = some (.int .i64 b.off) ∧ wl.cell? ⟨w6.heap.size, 4, none⟩ = some (.bool b.gone)) ∧ wl.cell? ⟨w7.heap.size, 0, none⟩ = some (.slice A1 n1 c1) := ⟨winc (b20.below b20.lt hbr), winc (K3.out.below hbr).b16, (K3.out.below hbr).b18.cell 0⟩))
              all_goals (
                go_wp2_with fail
                go_ret
                exact ⟨rfl, o7.out.bel.trans (hbr.mono o7.out.bel.size)⟩)
            · have Ch1 := Lib.hid fun (wx : World) (Ax : Option Addr) (nx cx : Nat) (h : Bw.St wx Ax nx cx X2) => (show Calls Tryd.prog 28 #[.agg #[.slice Ax nx cx], .int .i64 (L.length : Int)] wx fun e w' => e = .returned (.bool false) ∧ Below wx.heap.size wx w' by
                have := Bw.has_any Ax nx cx X2 (L.length : Int) wx h ⟨by omega, by omega⟩
                rwa [hX2, new_has hsq.out k m true (by omega) hwin2] at this)
              replace hX2 := Lib.hid hX2
              clear hwin2
              go_upto_region 21 with fail
              generalize hxd : w10.alloc (.cells #[.int .i64 b2.seg, .int .i64 b2.doc, .int .i64 b2.cmp, .int .i64 b2.off, .bool b2.gone] 47) = xd at *
              clear hxd
              replace b20 : Wd.Bx xd w10.heap.size 47 #[.int .i64 0, .int .i64 (L.length : Int), .int .i64 m, .int .i64 (L.length : Int), .bool true] := by
                have := b20
                rw [hb2.out] at this
                exact this
              have hbr : Below xd.heap.size xd xd.drew := (Below.refl _ _).drew
              have hs : (xd.cell? ⟨w10.heap.size, 0, none⟩ = some (.int .i64 0) ∧ xd.cell? ⟨w10.heap.size, 1, none⟩ = some (.int .i64 (L.length : Int)) ∧ xd.cell? ⟨w10.heap.size, 2, none⟩ = some (.int .i64 m) ∧ xd.cell? ⟨w10.heap.size, 3, none⟩ = some (.int .i64 (L.length : Int)) ∧ xd.cell? ⟨w10.heap.size, 4, none⟩ = some (.bool true)) ∧ (xd.cell? ⟨w6.heap.size, 0, none⟩ = some (.int .i64 b.seg) ∧ xd.cell? ⟨w6.heap.size, 1, none⟩ = some (.int .i64 b.doc) ∧ xd.cell? ⟨w6.heap.size, 2, none⟩ = some (.int .i64 b.cmp) ∧ xd.cell? ⟨w6.heap.size, 3, none⟩ = some (.int .i64 b.off) ∧ xd.cell? ⟨w6.heap.size, 4, none⟩ = some (.bool b.gone)) ∧ xd.cell? ⟨w7.heap.size, 0, none⟩ = some (.slice A1 n1 c1) := ⟨winc b20, winc K3.out.b16, K3.out.b18.cell 0⟩
              have hE := hE.out
              go_region_held3 (fun w' => (w'.cell? ⟨w10.heap.size, 0, none⟩ = some (.int .i64 0) ∧ w'.cell? ⟨w10.heap.size, 1, none⟩ = some (.int .i64 (L.length : Int)) ∧ w'.cell? ⟨w10.heap.size, 2, none⟩ = some (.int .i64 m) ∧ w'.cell? ⟨w10.heap.size, 3, none⟩ = some (.int .i64 (L.length : Int)) ∧ w'.cell? ⟨w10.heap.size, 4, none⟩ = some (.bool true)) ∧ (w'.cell? ⟨w6.heap.size, 0, none⟩ = some (.int .i64 b.seg) ∧ w'.cell? ⟨w6.heap.size, 1, none⟩ = some (.int .i64 b.doc) ∧ w'.cell? ⟨w6.heap.size, 2, none⟩ = some (.int .i64 b.cmp) ∧ w'.cell? ⟨w6.heap.size, 3, none⟩ = some (.int .i64 b.off) ∧ w'.cell? ⟨w6.heap.size, 4, none⟩ = some (.bool b.gone)) ∧ w'.cell? ⟨w7.heap.size, 0, none⟩ = some (.slice A1 n1 c1))
                (first | exact hs | go_keep)
                (first | (go_at_call 21; (with_reducible refine (CV3.out _ _ _ (by omega) (o7.out.below hbr)).mono ?_); rintro e wv ⟨A3, n3, c3, rfl, hst3, hbv⟩; replace hbr := hbr.trans (hbv.mono hbr.size); have hs : (wv.cell? ⟨w10.heap.size, 0, none⟩ = some (.int .i64 0) ∧ wv.cell? ⟨w10.heap.size, 1, none⟩ = some (.int .i64 (L.length : Int)) ∧ wv.cell? ⟨w10.heap.size, 2, none⟩ = some (.int .i64 m) ∧ wv.cell? ⟨w10.heap.size, 3, none⟩ = some (.int .i64 (L.length : Int)) ∧ wv.cell? ⟨w10.heap.size, 4, none⟩ = some (.bool true)) ∧ (wv.cell? ⟨w6.heap.size, 0, none⟩ = some (.int .i64 b.seg) ∧ wv.cell? ⟨w6.heap.size, 1, none⟩ = some (.int .i64 b.doc) ∧ wv.cell? ⟨w6.heap.size, 2, none⟩ = some (.int .i64 b.cmp) ∧ wv.cell? ⟨w6.heap.size, 3, none⟩ = some (.int .i64 b.off) ∧ wv.cell? ⟨w6.heap.size, 4, none⟩ = some (.bool b.gone)) ∧ wv.cell? ⟨w7.heap.size, 0, none⟩ = some (.slice A1 n1 c1) := ⟨winc (b20.below b20.lt hbr), winc (K3.out.below hbr).b16, (K3.out.below hbr).b18.cell 0⟩) | (go_at_call 28; (with_reducible refine (Ch1.out _ A3 n3 c3 hst3).mono ?_); rintro e wl ⟨rfl, hbl⟩; replace hbr := hbr.trans (hbl.mono hbr.size); have hs : (wl.cell? ⟨w10.heap.size, 0, none⟩ = some (.int .i64 0) ∧ wl.cell? ⟨w10.heap.size, 1, none⟩ = some (.int .i64 (L.length : Int)) ∧ wl.cell? ⟨w10.heap.size, 2, none⟩ = some (.int .i64 m) ∧ wl.cell? ⟨w10.heap.size, 3, none⟩ = some (.int .i64 (L.length : Int)) ∧ wl.cell? ⟨w10.heap.size, 4, none⟩ = some (.bool true)) ∧ (wl.cell? ⟨w6.heap.size, 0, none⟩ = some (.int .i64 b.seg) ∧ wl.cell? ⟨w6.heap.size, 1, none⟩ = some (.int .i64 b.doc) ∧ wl.cell? ⟨w6.heap.size, 2, none⟩ = some (.int .i64 b.cmp) ∧ wl.cell? ⟨w6.heap.size, 3, none⟩ = some (.int .i64 b.off) ∧ wl.cell? ⟨w6.heap.size, 4, none⟩ = some (.bool b.gone)) ∧ wl.cell? ⟨w7.heap.size, 0, none⟩ = some (.slice A1 n1 c1) := ⟨winc (b20.below b20.lt hbr), winc (K3.out.below hbr).b16, (K3.out.below hbr).b18.cell 0⟩) | (go_at_call 28; (with_reducible refine (Ch2.out _ A3 n3 c3 hst3).mono ?_); rintro e wl ⟨rfl, hbl⟩; replace hbr := hbr.trans (hbl.mono hbr.size); have hs : (wl.cell? ⟨w10.heap.size, 0, none⟩ = some (.int .i64 0) ∧ wl.cell? ⟨w10.heap.size, 1, none⟩ = some (.int .i64 (L.length : Int)) ∧ wl.cell? ⟨w10.heap.size, 2, none⟩ = some (.int .i64 m) ∧ wl.cell? ⟨w10.heap.size, 3, none⟩ = some (.int .i64 (L.length : Int)) ∧ wl.cell? ⟨w10.heap.size, 4, none⟩ = some (.bool true)) ∧ (wl.cell? ⟨w6.heap.size, 0, none⟩ = some (.int .i64 b.seg) ∧ wl.cell? ⟨w6.heap.size, 1, none⟩ = some (.int .i64 b.doc) ∧ wl.cell? ⟨w6.heap.size, 2, none⟩ = some (.int .i64 b.cmp) ∧ wl.cell? ⟨w6.heap.size, 3, none⟩ = some (.int .i64 b.off) ∧ wl.cell? ⟨w6.heap.size, 4, none⟩ = some (.bool b.gone)) ∧ wl.cell? ⟨w7.heap.size, 0, none⟩ = some (.slice A1 n1 c1) := ⟨winc (b20.below b20.lt hbr), winc (K3.out.below hbr).b16, (K3.out.below hbr).b18.cell 0⟩))
              all_goals (
                go_wp2_with fail
                go_ret
                exact ⟨rfl, o7.out.bel.trans (hbr.mono o7.out.bel.size)⟩)
theorem upsertWins_says (A : Option Addr) (n c : Nat) (l : List Opd) (k m : Int) (d : Bool) (w : World) (hS : Wd.Ops w A n c l) (k0 : -9223372036854775808 ≤ k) (k1 : k ≤ 9223372036854775807) (m0 : -9223372036854775808 ≤ m) (m1 : m ≤ 9223372036854775807) (hL : laidMetH Tryd.prog Bw.ls w) :
    Calls Tryd.prog 8 #[.slice A n c, .int .i64 k, .int .i64 m, .bool d] w fun e w' => e = .returned (.bool true) ∧ Below w.heap.size w w' :=
  upsertWins_walk A n c l k m d w hS (WalkArith.wf_i64 ⟨k0, k1⟩) (WalkArith.wf_i64 ⟨m0, m1⟩) (Bw.tab_of_laid hL)
end Lw
end Go.Proofs.YtpappcmgnnmbeaaDoor
