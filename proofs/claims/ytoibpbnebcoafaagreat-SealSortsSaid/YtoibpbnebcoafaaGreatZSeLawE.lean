/- The walk of the statement SealSorts of layer 12. -/
import Derived.Deep.RegionHeld3
import Derived.Deep.DeepCutAuto
import Derived.Deep.QuietTactic
import Derived.BigQuiet
import Derived.WalkLawsBesides
import Derived.Test.YtoibpbnebcoafaaGreatPk49
import Derived.Test.YtoibpbnebcoafaaGreatPk44
import Derived.Test.YtoibpbnebcoafaaGreatPk36
import Derived.Test.YtoibpbnebcoafaaGreatPk50
import Derived.Test.YtoibpbnebcoafaaGreatPk21
import Derived.Test.YtoibpbnebcoafaaGreatPk42
namespace Go.Proofs.YtoibpbnebcoafaaGreat
set_option maxRecDepth 20000
open Go.RowKit
namespace Se
open Va (Vl May ord)
open Sc (Sch FitS MayS tr)
open Sx (Sb)
open Wd (Rcd)
/-- One box, of a schema. -/
structure Bo (w w' : World) (A : Option Addr) (n c : Nat) (s : Sch) : Prop where
  s : Sb w' w.heap.size A n c s.key s.cmp s.del s.sort
  b : Below w.heap.size w w'
theorem Bo.below {w w1 w2 : World} {A : Option Addr} {n c : Nat} {s : Sch} (h : Bo w w1 A n c s) (hb : Below w1.heap.size w1 w2) : Bo w w2 A n c s :=
  ⟨h.s.below h.s.lt hb, h.b.trans (hb.mono h.b.size)⟩
theorem nrw_len (l : List Rcd) : (rws l).length = l.length := by simp [rws]
theorem few_len {l : List Rcd} (h : Rw.FewR l) : ∀ r ∈ rws l, ∀ v ∈ r, v.s.size ≤ maxLen := fun r hr v hv => by
  obtain ⟨o, ho, rfl⟩ := List.mem_map.1 hr
  obtain ⟨j, hj, rfl⟩ := List.getElem_of_mem ho
  obtain ⟨i, hi, rfl⟩ := List.getElem_of_mem hv
  have h1 := h.2 j hj
  have e : l.getD j default = l[j] := by simp [List.getD, hj]
  rw [e] at h1
  have := h1.2 i hi
  rw [show (l[j].row).getD i default = (l[j].row)[i] by simp [List.getD, hi]] at this
  unfold maxLen
  omega
/-- The values that a slice of rows holds. -/
theorem ls_vals {w : World} {A : Option Addr} {n c : Nat} {L : List (List Vl)} (h : Wd.Ls w A n c L) : ∃ us : List Value, Wd.Hv w us L ∧ ∀ j, j < L.length → ∃ b f, A = some ⟨b, f, none⟩ ∧ b < w.heap.size ∧ w.cell? ⟨b, f + j, none⟩ = some (us.getD j undef) := by
  obtain ⟨U, hU⟩ := Go.Deep.choose_lt (α := Value) (n := L.length) (p := fun j u => (∃ A1 n1 c1, u = .slice A1 n1 c1 ∧ Wd.Vs w A1 n1 c1 (L.getD j [])) ∧ ∃ b f, A = some ⟨b, f, none⟩ ∧ b < w.heap.size ∧ w.cell? ⟨b, f + j, none⟩ = some u) (fun j hj => by
    obtain ⟨b, f, A1, n1, c1, e, hb, hc, hV⟩ := h.at_ j hj
    exact ⟨_, ⟨A1, n1, c1, rfl, hV⟩, b, f, e, hb, hc⟩)
  have hg : ∀ j, j < L.length → ((List.range L.length).map U).getD j undef = U j := fun j hj => by simp [List.getD, List.getElem?_range hj]
  refine ⟨(List.range L.length).map U, ⟨by simp, fun j hj => ?_⟩, fun j hj => ?_⟩
  · rw [hg j hj]; exact (hU j hj).1
  · rw [hg j hj]; exact (hU j hj).2
def pks (us : List Value) (o : List Nat) : List Value := o.map fun i => us.getD i undef
theorem hv_pick {w : World} {us : List Value} {L : List (List Vl)} (h : Wd.Hv w us L) {o : List Nat} (ho : ∀ i ∈ o, i < L.length) : Wd.Hv w (pks us o) (o.map fun i => L.getD i []) := by
  refine ⟨by simp [pks], fun j hj => ?_⟩
  have hj' : j < o.length := by simpa using hj
  obtain ⟨A, n, c, e, hV⟩ := h.2 (o[j]) (ho _ (List.getElem_mem _))
  refine ⟨A, n, c, ?_, ?_⟩
  · rw [← e]; simp [pks, List.getD, hj']
  · have : (o.map fun i => L.getD i []).getD j [] = L.getD o[j] [] := by simp [List.getD, hj']
    rw [this]; exact hV
theorem srow_tk (s : Sch) (l : List (List Vl)) (k : Nat) : (srow s l).take k = ((arr s l).take k).map fun i => l.getD i [] := by simp [srow, List.map_take]
theorem take_getD {l : List (List Vl)} {j k : Nat} (h : j < k) : (l.take k).getD j [] = l.getD j [] := by simp [List.getD, List.getElem?_take_of_lt h]
theorem rangeN_get {n j : Nat} (h : j < n) : (Ssm.ns (List.range n)).getD j 0 = (j : Int) := by
  rw [Ssm.ns_get]
  simp [List.getD, List.getElem?_range h]
end Se
namespace Lw
open Se
open Va (Vl)
open Sc (Sch MayS FitS tr tr_yes tr_no tr_iff tr_congr)
open Sx (Sb five FewS)
open Wd (Cr Rcd)
open Ssm (ns)
set_option maxHeartbeats 16000000 in
theorem sealSorts_walk (A : Option Addr) (n c : Nat) (s : Sch) (B : Option Addr) (m d : Nat) (l : List Rcd) (w : World) (hS : Wd.Cs w A n c s.cols) (_u : Wd.Sch1 s) (hR : Wd.Rcs w B m d l) :
    Calls Tryz.prog 6 #[.agg #[.slice A n c, .int .i64 s.key, .int .i64 s.cmp, .int .i64 s.del, .int .i64 s.sort], .slice B m d] w fun e w' => e = .returned (.bool true) ∧ Below w.heap.size w w' := by
  obtain ⟨w1, hw1⟩ : ∃ w1, w1 = w.alloc (.cells #[.slice A n c, .int .i64 s.key, .int .i64 s.cmp, .int .i64 s.del, .int .i64 s.sort] 24) := ⟨_, rfl⟩
  have H1 : Bo w w1 A n c s := by
    rw [hw1]
    exact ⟨Wd.Bx.new w _ _, (Below.refl _ _).alloc (Nat.le_refl _) _⟩
  have H1 := Lib.hid H1
  have Hw1 := Lib.hid hw1
  have HS := Lib.hid hS
  have HR := Lib.hid hR
  have Hn := Lib.hid hS.len
  have Hm := Lib.hid hR.len
  have Ca := Lib.hid (awake_any w1)
  clear hw1 hS hR
  go_enter Tryz.func6, Tryz.ntmps6
  go_upto_region 1 with fail
  rw [← Hw1.out]
  go_wp2_with fail
  refine Ca.out.mono ?_
  rintro e w2 ⟨rfl, hB2⟩
  have H2 := Lib.hid (H1.out.below hB2)
  have Cf := Lib.hid (Sx.Few_any A n c s w2 (HS.out.below H2.out.b))
  obtain ⟨v1, hv1⟩ : ∃ v1, v1 = tr (FewS s) := ⟨_, rfl⟩
  rw [← hv1] at Cf
  have Hv1 := Lib.hid hv1
  obtain ⟨c0, c1, c2, c3, c4⟩ := five H2.out.s
  clear hB2 Ca hv1
  go_wp2_with fail
  refine Cf.out.mono ?_
  rintro e w3 ⟨rfl, hB3⟩
  have H3 := Lib.hid (H2.out.below hB3)
  clear hB3 c0 c1 c2 c3 c4 Cf
  cases v1
  case false =>
    go_wp2_with fail
    go_ret
    exact ⟨rfl, H3.out.b⟩
  have hfew := (tr_iff (p := FewS s)).1 Hv1.out.symm
  have hn : n ≤ 12 := by have := hfew.1; have := Hn.out; omega
  have Cg := Lib.hid (Rw.few_any B m d l w3 (HR.out.below H3.out.b))
  clear hfew Hv1
  by_cases hQ : Rw.FewR l
  case neg =>
    rw [tr_no hQ] at Cg
    clear hQ
    go_wp2_with fail
    refine Cg.out.mono ?_
    rintro e w4 ⟨rfl, e4⟩
    subst e4
    go_wp2_with fail
    go_ret
    exact ⟨rfl, H3.out.b⟩
  rw [if_pos (tr_yes hQ)] at Cg
  have hm : m ≤ 60 := by have := hQ.1; have := Hm.out; omega
  have HQ := Lib.hid hQ
  clear hQ
  go_wp2_with fail
  refine Cg.out.mono ?_
  rintro e w4 ⟨rfl, e4⟩
  subst e4
  have Cp := Lib.hid (parted_any B m d l w4 (HR.out.below H3.out.b) (by omega))
  clear Cg
  go_wp2_with fail
  refine Cp.out.mono ?_
  rintro e w5 ⟨RA, rc, QA, qc, rfl, hL5, hQ5, hB5⟩
  rw [← Hm.out] at hL5 hQ5 ⊢
  have H5 := Lib.hid (H3.out.below hB5)
  have HL := Lib.hid hL5
  have HO := Lib.hid hQ5
  clear hL5 hQ5 hB5 Cp H3
  have Hrl := Lib.hid (show (rws l).length = m by rw [nrw_len]; exact Hm.out.symm)
  have Hz := Lib.hid (few_len HQ.out)
  clear HR HQ HO
  obtain ⟨L, hL⟩ : ∃ L, L = rws l := ⟨_, rfl⟩
  rw [← hL] at HL Hrl Hz
  clear hL
  have Co := Lib.hid (order_any A n c s RA m rc L w5 (HS.out.below H5.out.b) HL.out (by omega) (by omega))
  obtain ⟨c0, c1, c2, c3, c4⟩ := five H5.out.s
  go_wp2_with fail
  refine Co.out.mono ?_
  rintro e w6 ⟨TA, tn, tc, rfl, hT6, hB6⟩
  have Htn := Lib.hid (show tn = (order s L).length by have := hT6.len; rw [Ssm.ns_len] at this; exact this)
  have H6 := Lib.hid (H5.out.below hB6)
  have HL6 := Lib.hid (HL.out.below hB6)
  have HT6 := Lib.hid hT6
  have htcap := hT6.cap
  have htmax := hT6.max
  have hlcap := HL6.out.cap
  have hlmax := HL6.out.max
  unfold maxLen at htmax hlmax
  clear hB6 hT6 c0 c1 c2 c3 c4 Co HL
  by_cases hne : tn = m
  case neg =>
    have ho := order_short (s := s) (l := L) (by rw [← Htn.out, Hrl.out]; exact hne)
    obtain rfl : tn = 0 := by rw [Htn.out, ho.1]; rfl
    have Cf := refFit_any A n c s RA m rc L w6 (HS.out.below H6.out.b) HL6.out (by omega) (by omega)
    rw [tr_no ho.2] at Cf
    have Cf := Lib.hid Cf
    have q0 : (((0 : Nat) : Int) != (m : Int)) = true := by simp; omega
    obtain ⟨c0, c1, c2, c3, c4⟩ := five H6.out.s
    clear ho
    go_wp2_with fail
    refine Cf.out.mono ?_
    rintro e w7 ⟨rfl, hB7⟩
    have H7 := Lib.hid (H6.out.below hB7)
    clear hB7 c0 c1 c2 c3 c4 Cf
    go_wp2_with fail
    go_ret
    exact ⟨rfl, H7.out.b⟩
  subst hne
  have hfull : (order s L).length = L.length := by rw [← Htn.out, Hrl.out]
  obtain ⟨o1, o2⟩ := order_full hfull
  rw [o1] at HT6
  have HO2 := Lib.hid o2
  have HFit := Lib.hid (fun h => order_fit hfull h)
  clear o1 o2 hfull Htn
  have q0 : ((tn : Int) != (tn : Int)) = false := by simp
  go_wp2_with fail
  clear q0
  obtain ⟨us, hus, hcs⟩ := ls_vals HL6.out
  have HU := Lib.hid hus
  have HC := Lib.hid hcs
  clear hus hcs
  obtain ⟨i0, hi, hz0, hz1, hz2⟩ := info_parts Wd.info_vs
  have I0 := Lib.hid (And.intro hi (And.intro hz0 (And.intro hz1 hz2)))
  clear hi hz0 hz1 hz2
  go_loopw [11, 10] (fun i v wr => ∃ k : Nat, i = .int .i64 k ∧ k ≤ tn ∧ Hid (wr.ownsRow w6.heap.size 45 1 v k (pks us ((arr s L).take k)) ∧ Below w6.heap.size w6 wr)) (fun i _ _ => tn - (intOf i).toNat)
  case atStart => exact ⟨0, rfl, Nat.zero_le _, Lib.hid ⟨World.ownsRow_nil _ _ _ _, Below.refl _ _⟩⟩
  case round =>
    obtain ⟨k, rfl, hk, hI⟩ := hrel
    by_cases hlt : k < tn
    · have hkI : (k : Int) < (tn : Int) := by omega
      have hkL : k < L.length := by rw [Hrl.out]; exact hlt
      obtain ⟨q, hq⟩ : ∃ q, q = at_ s L k := ⟨_, rfl⟩
      have hqL : q < L.length := by rw [hq]; exact at_lt hkL
      have hqm : q < tn := by rw [Hrl.out] at hqL; exact hqL
      have hqI : (q : Int) < (tn : Int) := by omega
      have hq0 : (0 : Int) ≤ (q : Int) := by omega
      obtain ⟨tb, tf, hTA, _, t0⟩ := (HT6.out.below hI.out.2).rd k (by rw [Ssm.ns_len, arr_len]; exact hkL)
      subst hTA
      rw [Ssm.ns_get, show (arr s L).getD k 0 = q from hq.symm] at t0
      obtain ⟨rb, rf, hRA, hrb, r0⟩ := HC.out q hqL
      subst hRA
      obtain ⟨A0, n0, c0, hu0, -⟩ := HU.out.2 q hqL
      have r0 := (hI.out.2.cell hrb).trans r0
      rw [hu0] at r0
      have hnext : pks us ((arr s L).take (k + 1)) = pks us ((arr s L).take k) ++ [.slice A0 n0 c0] := by
        rw [at_take hkL, ← hq]
        unfold pks
        rw [List.map_append, List.map_cons, List.map_nil, hu0]
      have Hnext := Lib.hid hnext
      have Hq := Lib.hid hq
      have Hu0 := Lib.hid hu0
      have hzz := hI.out.2.size
      have hO1 := hI.out.1.alloc (.cells #[.slice A0 n0 c0] 45)
      have hnew := (Wd.Bx.new wr 45 #[.slice A0 n0 c0]).cell 0
      have hb1 := hI.out.2.alloc hzz (.cells #[.slice A0 n0 c0] 45)
      have HI := Lib.hid hI.out
      clear hI hq hu0 hnext hrb hkL hqL
      go_wp2_with (at_builtin; refine Wd.wpList_app1v _ rfl (.tmp 71) (.tmp 79) 33 rfl w6.heap.size 45 i0 _ 24 Tryz.underlying33 I0.out.1 I0.out.2.1 I0.out.2.2.1 I0.out.2.2.2 rfl u10 k _ rfl hO1 ⟨wr.heap.size, 0, none⟩ (.slice A0 n0 c0) rfl hnew rfl rfl (by unfold maxLen; omega) (by omega) (by simp; omega) ?_; intro v7 w7 hO7 hg7)
      have hb7 : Below w6.heap.size w6 w7 := hb1.grown hg7 hb1.size fun g hg => (hO1.lt g hg).1
      rw [← Hnext.out] at hO7
      have Hv7 := Lib.hid (show Wd.Hv w7 (pks us ((arr s L).take (k + 1))) ((srow s L).take (k + 1)) by
        rw [srow_tk]
        exact hv_pick (HU.out.below hb7) fun i hi => (arr_mem s L).1 (List.mem_of_mem_take hi))
      have I7 := Lib.hid (And.intro hO7 hb7)
      have S7 := Lib.hid (H6.out.below hb7)
      clear hO1 hnew hb1 hg7 t0 r0 HI hO7 hb7
      obtain ⟨c0, c1, c2, c3, c4⟩ := five S7.out.s
      by_cases k0 : k = 0
      · subst k0
        have e3 : decide ((0 : Int) < ((0 : Nat) : Int)) = false := by decide
        clear c0 c1 c2 c3
        go_wp2_with fail
        go_quiet (fail)
        go_wp2_with fail
        go_roundw
        case rel => exact ⟨1, by go_num, by omega, Lib.hid ⟨Wd.own_below I7.out.1 (Wd.below_drewN (Below.refl _ _) _), Wd.below_drewN I7.out.2 _⟩⟩
        case measure => simp [intOf]; omega
      have e3 : decide ((0 : Int) < (k : Int)) = true := decide_eq_true (by omega)
      have e3' : decide (0 < k) = true := decide_eq_true (by omega)
      by_cases hs : 0 ≤ s.sort
      case neg =>
        obtain ⟨t, ht⟩ : ∃ t, t = s.sort := ⟨_, rfl⟩
        have hd : decide (0 ≤ t) = false := decide_eq_false (by omega)
        rw [← ht] at c4
        clear c0 c1 c2 c3 hs ht
        go_wp2_with fail
        go_quiet (fail)
        go_wp2_with fail
        go_roundw
        case rel => exact ⟨k + 1, by go_num, by omega, Lib.hid ⟨Wd.own_below I7.out.1 (Wd.below_drewN (Below.refl _ _) _), Wd.below_drewN I7.out.2 _⟩⟩
        case measure => simp [intOf]; omega
      obtain ⟨kp, hkp⟩ : ∃ z, z + 1 = k := ⟨k - 1, by omega⟩
      have zk : (k : Int) - 1 = (kp : Int) := by omega
      have rk : IntKind.i64.wrap (kp : Int) = (kp : Int) := by rw [IntKind.wrap_i64]; omega
      have kpI : (kp : Int) < (tn : Int) := by omega
      obtain ⟨N, hN⟩ : ∃ N, N = k + 1 := ⟨_, rfl⟩
      rw [← hN] at I7 Hv7
      have HN := Lib.hid hN
      have kpN : (kp : Int) < (N : Int) := by omega
      have kN : (k : Int) < (N : Int) := by omega
      have kp0 : (0 : Int) ≤ (kp : Int) := by omega
      have kk0 : (0 : Int) ≤ (k : Int) := by omega
      obtain ⟨K, hK⟩ : ∃ K : Nat, s.sort = (K : Int) := ⟨s.sort.toNat, by omega⟩
      obtain ⟨A7, c7, rfl, hL7⟩ := Wd.Ls.of_own I7.out.1 Hv7.out
      have hLl : ((srow s L).take N).length = N := by rw [List.length_take, srow_len, Hrl.out]; omega
      have hfit := srow_fit (HFit.out (by rw [Hrl.out]; omega))
      have hml : s.sort < s.cols.length := hfit.1.2.2.2.1
      obtain ⟨gb, gf, A1, n1, c1', hA7, _, g1, hV1⟩ := hL7.at_ kp (by rw [hLl]; omega)
      obtain ⟨gb', gf', A2, n2, c2', hA7', _, g2, hV2⟩ := hL7.at_ k (by rw [hLl]; omega)
      subst hA7
      cases hA7'
      rw [take_getD (by omega)] at hV1 hV2
      have hr1 : (srow s L).getD kp [] ∈ srow s L := get_mem (by rw [srow_len, Hrl.out]; omega)
      have hr2 : (srow s L).getD k [] ∈ srow s L := get_mem (by rw [srow_len, Hrl.out]; omega)
      have hord := srow_ord (s := s) (l := L) (i := kp) (j := k) (by omega) (by rw [Hrl.out]; omega) hs
      have hz1 := fun v hv => Hz.out _ (by
        have : (srow s L).getD kp [] = L.getD (at_ s L kp) [] := srow_get (by rw [Hrl.out]; omega)
        rw [this] 
        exact get_mem (at_lt (by rw [Hrl.out]; omega)) : (srow s L).getD kp [] ∈ L) v hv
      have hf1 := (fit_may (hfit.2 _ hr1)).1
      have hf2 := (fit_may (hfit.2 _ hr2)).1
      generalize (srow s L).getD kp [] = X at *
      generalize (srow s L).getD k [] = Y at *
      rw [hK, Int.toNat_natCast] at hord
      have hk1 : K < X.length := by omega
      have hk2 : K < Y.length := by omega
      have hn1 := hV1.len
      have hn2 := hV2.len
      have hcap1 := hV1.cap
      have hmax1 := hV1.max
      have hcap2 := hV2.cap
      have hmax2 := hV2.max
      have hcap7 := hL7.cap
      have hmax7 := hL7.max
      unfold maxLen at hmax1 hmax2 hmax7
      have hzx := hz1 (X.getD K default) (by
        rw [List.getD_eq_getElem?_getD, List.getElem?_eq_getElem hk1]
        exact List.getElem_mem _)
      obtain ⟨b1, f1, hA1, _, x0, x1, x2, x3, -⟩ := hV1.cells hk1 rfl
      obtain ⟨b2, f2, hA2, _, y0, y1, y2, y3, -⟩ := hV2.cells hk2 rfl
      subst hA1 hA2
      generalize X.getD K default = x at *
      generalize Y.getD K default = y at *
      rw [hK] at c4
      have km1 : (K : Int) < (n1 : Int) := by omega
      have km2 : (K : Int) < (n2 : Int) := by omega
      have k0i : (0 : Int) ≤ (K : Int) := by omega
      have k0' : decide ((0 : Int) ≤ (K : Int)) = true := decide_eq_true k0i
      obtain ⟨ov, hov⟩ : ∃ ov, ov = Va.ord x y := ⟨_, rfl⟩
      have Cv := Lib.hid (fun W => Vc.refOrder_any x.kind x.i x.s x.b y.kind y.i y.s y.b W hzx)
      rw [show (⟨x.kind, x.i, x.s, x.b⟩ : Vl) = x from rfl, show (⟨y.kind, y.i, y.s, y.b⟩ : Vl) = y from rfl, ← hov] at Cv
      rw [← hov] at hord
      have o0 : decide (0 < ov) = false := decide_eq_false (by omega)
      have bk : ∀ {W : World} {a : Addr} {v : Value}, Below w7.heap.size w7 W → w7.cell? a = some v → W.cell? a = some v := fun {W a v} hb hc => (hb.cell (World.block_lt_of_cell? w7 a hc)).trans hc
      have ZZ := Lib.hid (fun (W : World) (hb : Below w7.heap.size w7 W) => (show W.cell? ⟨w.heap.size, 4, none⟩ = some (.int .i64 (K : Int)) ∧ W.cell? ⟨gb, gf + kp, none⟩ = some (.slice (some ⟨b1, f1, none⟩) n1 c1') ∧ W.cell? ⟨gb, gf + k, none⟩ = some (.slice (some ⟨b2, f2, none⟩) n2 c2') ∧ W.cell? ⟨b1, f1 + K * 4, none⟩ = some (.int .i64 x.kind) ∧ W.cell? ⟨b1, f1 + K * 4 + 1, none⟩ = some (.int .i64 x.i) ∧ W.cell? ⟨b1, f1 + K * 4 + 2, none⟩ = some (.string x.s) ∧ W.cell? ⟨b1, f1 + K * 4 + 3, none⟩ = some (.bool x.b) ∧ W.cell? ⟨b2, f2 + K * 4, none⟩ = some (.int .i64 y.kind) ∧ W.cell? ⟨b2, f2 + K * 4 + 1, none⟩ = some (.int .i64 y.i) ∧ W.cell? ⟨b2, f2 + K * 4 + 2, none⟩ = some (.string y.s) ∧ W.cell? ⟨b2, f2 + K * 4 + 3, none⟩ = some (.bool y.b) from
        ⟨bk hb c4, bk hb g1, bk hb g2, bk hb x0, bk hb x1, bk hb x2, bk hb x3, bk hb y0, bk hb y1, bk hb y2, bk hb y3⟩))
      have J7 := Lib.hid (fun W (hb : Below w7.heap.size w7 W) => (show W.ownsRow w6.heap.size 45 1 (.slice (some ⟨gb, gf, none⟩) N c7) N (pks us ((arr s L).take N)) ∧ Below w6.heap.size w6 W from ⟨Wd.own_below I7.out.1 hb, I7.out.2.trans (hb.mono I7.out.2.size)⟩))
      clear bk c0 c1 c2 c3 c4 g1 g2 x0 x1 x2 x3 y0 y1 y2 y3 hs hK hk1 hk2 hn1 hn2 hV1 hV2 hL7 I7 hr1 hr2 hf1 hf2 hfit hml hLl hz1 hzx hord hov Hv7 hN
      go_upto_region 16 with fail
      go_cut [108] (fun v wz => v = .bool false ∧ Below w7.heap.size w7 wz)
      case first =>
        have hb : Below w7.heap.size w7 w7.drew := (Below.refl _ _).drew
        have z10 := ZZ.out w7.drew hb
        go_region_held3 (fun W => W.cell? ⟨w.heap.size, 4, none⟩ = some (.int .i64 (K : Int)) ∧ W.cell? ⟨gb, gf + kp, none⟩ = some (.slice (some ⟨b1, f1, none⟩) n1 c1') ∧ W.cell? ⟨gb, gf + k, none⟩ = some (.slice (some ⟨b2, f2, none⟩) n2 c2') ∧ W.cell? ⟨b1, f1 + K * 4, none⟩ = some (.int .i64 x.kind) ∧ W.cell? ⟨b1, f1 + K * 4 + 1, none⟩ = some (.int .i64 x.i) ∧ W.cell? ⟨b1, f1 + K * 4 + 2, none⟩ = some (.string x.s) ∧ W.cell? ⟨b1, f1 + K * 4 + 3, none⟩ = some (.bool x.b) ∧ W.cell? ⟨b2, f2 + K * 4, none⟩ = some (.int .i64 y.kind) ∧ W.cell? ⟨b2, f2 + K * 4 + 1, none⟩ = some (.int .i64 y.i) ∧ W.cell? ⟨b2, f2 + K * 4 + 2, none⟩ = some (.string y.s) ∧ W.cell? ⟨b2, f2 + K * 4 + 3, none⟩ = some (.bool y.b)) (with_reducible first | exact z10) (first
          | (go_at_call 29; (with_reducible refine (Cv.out _).mono ?_); rintro e w8 ⟨rfl, hB8⟩; have hb := hb.trans (hB8.mono hb.size); have z10 := ZZ.out _ hb))
        all_goals (
          go_wp2_with fail
          go_meet
          exact ⟨rfl, hb⟩)
      case rest =>
      obtain ⟨rfl, hbc⟩ := hcut
      have I8 := Lib.hid (J7.out _ hbc)
      have hN := HN.out
      subst hN
      clear hbc ZZ J7 Cv
      go_wp2_with fail
      go_roundw
      case rel => exact ⟨k + 1, by go_num, by omega, I8⟩
      case measure => simp [intOf]; omega
    · have hkI : ¬ (k : Int) < (tn : Int) := by omega
      obtain rfl : k = tn := by omega
      have hb7 := hI.out.2
      have hv7 : Wd.Hv wr (pks us ((arr s L).take k)) (srow s L) := by
        have := hv_pick (HU.out.below hb7) (o := (arr s L).take k) fun i hi => (arr_mem s L).1 (List.mem_of_mem_take hi)
        have e : (srow s L).take k = srow s L := List.take_of_length_le (by rw [srow_len, Hrl.out]; exact Nat.le_refl _)
        rw [← srow_tk, e] at this
        exact this
      obtain ⟨A7, c7, rfl, hL7⟩ := Wd.Ls.of_own hI.out.1 hv7
      have H7 := Lib.hid (H6.out.below hb7)
      have Cq := order_any A n c s A7 k c7 (srow s L) wr (HS.out.below H7.out.b) hL7 (by omega) (by omega)
      rw [HO2.out, Hrl.out] at Cq
      have Cq := Lib.hid Cq
      have hcap7 := hL7.cap
      have hmax7 := hL7.max
      unfold maxLen at hmax7
      obtain ⟨c0, c1, c2, c3, c4⟩ := five H7.out.s
      clear hL7 hv7 hb7 hI HU HC
      rename World => wo
      go_wp2_with fail
      refine Cq.out.mono ?_
      rintro e w9 ⟨GA, gn, gc, rfl, hG9, hB9⟩
      have hgn : k = gn := by have := hG9.len; rw [Ssm.ns_len, List.length_range] at this; exact this.symm
      subst hgn
      have H9 := Lib.hid (H7.out.below hB9)
      have HG9 := Lib.hid hG9
      have hgcap := hG9.cap
      have hgmax := hG9.max
      unfold maxLen at hgmax
      clear hG9 hB9 c0 c1 c2 c3 c4 Cq
      go_wp2_with fail
      go_loopw [13] (fun i wr => ∃ j : Nat, i = .int .i64 j ∧ j ≤ k ∧ Hid (Below w9.heap.size w9 wr)) (fun i _ => k - (intOf i).toNat)
      case atStart => exact ⟨0, rfl, Nat.zero_le _, Lib.hid (Below.refl _ _)⟩
      case round =>
        obtain ⟨j, rfl, hj, hJ⟩ := hrel
        by_cases hjt : j < k
        · have hjI : (j : Int) < (k : Int) := by omega
          obtain ⟨tb, tf, hGA, _, t0⟩ := (HG9.out.below hJ.out).rd j (by rw [Ssm.ns_len, List.length_range]; exact hjt)
          subst hGA
          rw [rangeN_get hjt] at t0
          have q0 : ((j : Int) != (j : Int)) = false := by simp
          go_wp2_with fail
          go_roundw
          case rel => exact ⟨j + 1, by go_num, by omega, hJ⟩
          case measure => simp [intOf]; omega
        · have hjI : ¬ (j : Int) < (k : Int) := by omega
          have Hb := Lib.hid (H9.out.b.trans (hJ.out.mono H9.out.b.size))
          clear hJ
          go_wp2_with fail
          go_ret
          exact ⟨by simp, Hb.out⟩
end Lw
end Go.Proofs.YtoibpbnebcoafaaGreat
