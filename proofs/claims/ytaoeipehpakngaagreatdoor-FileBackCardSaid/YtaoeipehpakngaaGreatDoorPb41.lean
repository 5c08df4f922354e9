/- The reference of layer 12: Order. The reference of layer 12: May. -/
import Derived.StillTailTactics
import Derived.BigQuiet
import Derived.Deep.RegionLaw
import Derived.Deep.QuietTactic
import Derived.Deep.RegionHeld3
import Derived.Test.YtaoeipehpakngaaGreatDoorPb40
import Derived.Test.YtaoeipehpakngaaGreatDoorPb34
import Derived.Test.YtaoeipehpakngaaGreatDoorPb17
import Derived.Test.YtaoeipehpakngaaGreatDoorPb38
import Derived.Test.YtaoeipehpakngaaGreatDoorPb21
import Derived.Test.YtaoeipehpakngaaGreatDoorPb06
import Derived.Test.YtaoeipehpakngaaGreatDoorPb18
import Derived.Test.YtaoeipehpakngaaGreatDoorPb13
import Derived.Test.YtaoeipehpakngaaGreatDoorPb07
import Derived.Test.YtaoeipehpakngaaGreatDoorPb37
namespace Go.Proofs.YtaoeipehpakngaaGreatDoor
set_option maxRecDepth 20000
open Go.RowKit Go.Maps
namespace Se
open Va (Vl ord)
open Sc (Sch MayS FitS tr tr_yes tr_no tr_iff tr_congr)
open Sx (Sb five)
open Wd (Cr)
open Ssm (ns)
theorem ns_app (a b : List Nat) : ns (a ++ b) = ns a ++ ns b := by simp [ns]
theorem ns_take (a : List Nat) (k : Nat) : ns (a.take k) = (ns a).take k := by simp [ns, List.map_take]
theorem ns_drop (a : List Nat) (k : Nat) : ns (a.drop k) = (ns a).drop k := by simp [ns, List.map_drop]
theorem put_one {cf : Nat → Nat → Int} (W : Ssm.Wk cf) {k a : Nat} (ha : a ≤ k) (h1 : ∀ j, a ≤ j → j < k → cf k ((Ssm.srt cf (List.range k)).getD j 0) < 0) (h2 : a = 0 ∨ ¬ 0 < cf ((Ssm.srt cf (List.range k)).getD (a - 1) 0) k) :
    (Ssm.srt cf (List.range k)).take a ++ k :: (Ssm.srt cf (List.range k)).drop a = Ssm.srt cf (List.range (k + 1)) := by
  obtain ⟨D, hD⟩ : ∃ D, D = Ssm.srt cf (List.range k) := ⟨_, rfl⟩
  have hl : D.length = k := by rw [hD, Ssm.srt_len, List.length_range]
  have hp : D.Perm (List.range k) := by rw [hD]; exact Ssm.srt_perm _ _
  have hs : Ssm.So cf D := by rw [hD]; exact Ssm.srt_so W _
  rw [← hD] at h1 h2 ⊢
  clear hD
  refine Ssm.srt_only W ?_ ?_
  · refine List.perm_middle.trans ?_
    rw [List.take_append_drop, List.range_succ]
    exact ((hp.cons k).trans (List.perm_append_singleton k (List.range k)).symm)
  · refine Ssm.ins_done W (by rw [List.take_append_drop]; exact hs) (fun b hb => ?_) (fun x hx => ?_) (fun A' d hA => ?_)
    · obtain ⟨i, hi1, hi2, rfl⟩ := Ssm.drop_mem hb
      exact h1 i hi1 (by omega)
    · have := List.mem_range.1 (hp.mem_iff.1 (List.mem_of_mem_take hx))
      omega
    · have hla := congrArg List.length hA
      rw [List.length_take, List.length_append, List.length_singleton] at hla
      have hd : d = D.getD (a - 1) 0 := by
        have e : (D.take a)[a - 1]? = some d := by
          rw [hA, show a - 1 = A'.length by omega, List.getElem?_append_right (Nat.le_refl _)]
          simp
        rw [List.getElem?_take_of_lt (by omega)] at e
        rw [List.getD_eq_getElem?_getD, e]
        rfl
      rcases h2 with h2 | h2
      · omega
      · rw [← hd] at h2
        have := W.neg k d
        omega
set_option maxHeartbeats 8000000 in
theorem refOrder_new (A : Option Addr) (n c : Nat) (s : Sch) (R : Option Addr) (m d : Nat) (l : List (List Vl)) (w : World) (hS : Wd.Cs w A n c s.cols) (hL : Wd.Ls w R m d l) (hn : n ≤ 1000000) (hm : m ≤ 1000000) (hz : ∀ r ∈ l, ∀ v ∈ r, v.s.size ≤ maxLen) :
    Calls Tryz.prog 34 #[.agg #[.slice A n c, .int .i64 s.key, .int .i64 s.cmp, .int .i64 s.del, .int .i64 s.sort], .slice R m d] w (OutNw w (ns (order s l))) := by
  have hb0 := (Below.refl w.heap.size w).alloc (Nat.le_refl _) (.cells #[.slice A n c, .int .i64 s.key, .int .i64 s.cmp, .int .i64 s.del, .int .i64 s.sort] 24)
  have s0 : Sb (w.alloc (.cells #[.slice A n c, .int .i64 s.key, .int .i64 s.cmp, .int .i64 s.del, .int .i64 s.sort] 24)) w.heap.size A n c s.key s.cmp s.del s.sort := Wd.Bx.new w _ _
  have Cf := Lib.hid (refFit_any A n c s R m d l _ (hS.below hb0) (hL.below hb0) hn hm)
  have HS := Lib.hid hS
  have HL := Lib.hid hL
  have Hl := Lib.hid hL.len
  have hcap := hL.cap
  have hmax := hL.max
  unfold maxLen at hmax
  have HB := Lib.hid s0
  have Hb0 := Lib.hid hb0
  obtain ⟨c0, c1, c2, c3, c4⟩ := five s0
  obtain ⟨i0, hi, hz0, hz1, hz2⟩ := info_parts Bx.info_i
  have I0 := Lib.hid (And.intro hi (And.intro hz0 (And.intro hz1 hz2)))
  have Hz := Lib.hid hz
  clear hb0 s0 hS hL hi hz0 hz1 hz2 hz
  go_enter Tryz.func34, Tryz.ntmps34
  by_cases hf : Fit s l
  case neg =>
    have q1 := Lib.hid (tr_no hf)
    have q2 := Lib.hid (order_no hf)
    clear hf
    go_wp2_with fail
    refine Cf.out.mono ?_
    rintro e w1 ⟨rfl, hB1⟩
    rw [q1.out]
    have Hb1 := Lib.hid (Hb0.out.trans (hB1.mono Hb0.out.size))
    clear hB1 Cf
    go_wp2_with fail
    go_ret
    exact ⟨none, 0, 0, rfl, by rw [q2.out]; exact Wd.Sl.none_ _ _, Hb1.out, fun a h => by cases h⟩
  have q1 := Lib.hid (tr_yes hf)
  have Ho := Lib.hid (show order s l = Ssm.srt (cf s l) (List.range m) by rw [order_yes hf, arr, ← Hl.out])
  have Hst := Lib.hid (fun (j : Nat) (hj : j < m) => (show Srt s (l.getD j []) ∧ ∀ v ∈ l.getD j [], v.s.size ≤ maxLen from by
    have hmem : l.getD j [] ∈ l := by
      rw [List.getD_eq_getElem?_getD, List.getElem?_eq_getElem (show j < l.length by have := Hl.out; omega)]
      exact List.getElem_mem _
    exact ⟨srt_of (hf.2 _ hmem), Hz.out _ hmem⟩))
  clear hf
  go_wp2_with fail
  refine Cf.out.mono ?_
  rintro e w1 ⟨rfl, hB1⟩
  rw [q1.out]
  have Hb1 := Lib.hid (Hb0.out.trans (hB1.mono Hb0.out.size))
  have HB1 := Lib.hid (HB.out.below HB.out.lt hB1)
  clear hB1 c0 c1 c2 c3 c4 Cf
  go_wp2_with fail
  go_loopw [6, 7] (fun o j wr => ∃ k : Nat, j = .int .i64 k ∧ k ≤ m ∧ Hid (Bx.Rw wr w1.heap.size o (ns (Ssm.srt (cf s l) (List.range k))) ∧ Below w1.heap.size w1 wr)) (fun _ j _ => m - (intOf j).toNat)
  case atStart => exact ⟨0, rfl, Nat.zero_le _, Lib.hid ⟨by rw [List.range_zero, show Ssm.srt (cf s l) [] = [] from List.mergeSort_nil]; exact Bx.Rw.nil _ _, Below.refl _ _⟩⟩
  case round =>
    obtain ⟨k, rfl, hk, hI⟩ := hrel
    obtain ⟨D, hD⟩ : ∃ D, D = Ssm.srt (cf s l) (List.range k) := ⟨_, rfl⟩
    rw [← hD] at hI
    have hDl : D.length = k := by rw [hD, Ssm.srt_len, List.length_range]
    have hDm : ∀ j, j < k → D.getD j 0 < k := fun j hj => by
      have : D.getD j 0 ∈ D := by
        rw [List.getD_eq_getElem?_getD, List.getElem?_eq_getElem (by omega)]
        exact List.getElem_mem _
      rw [hD, Ssm.srt_mem, List.mem_range] at this
      rw [hD]; exact this
    obtain ⟨OA, on, oc, rfl, hO⟩ := Wd.Sl.of_own hI.out.1
    have hon : on = k := by rw [hO.len, Ssm.ns_len, hDl]
    subst hon
    have hocap := hO.cap
    have homax := hO.max
    unfold maxLen at homax
    by_cases hlt : on < m
    · have hkI : (on : Int) < (m : Int) := by omega
      have hbw : Below w.heap.size w wr := Hb1.out.trans (hI.out.2.mono Hb1.out.size)
      have SB := Lib.hid (HB1.out.below HB1.out.lt hI.out.2)
      have HO := Lib.hid hO
      have HD := Lib.hid hD
      have HDl := Lib.hid hDl
      have HDm := Lib.hid hDm
      have HI := Lib.hid hI.out
      have Hbw := Lib.hid hbw
      clear hO hD hDl hDm hI hbw
      rename World => wo
      go_upto_region 9 with fail
      go_loopw [8] (fun a wr => ∃ x : Nat, a = .int .i64 x ∧ x ≤ on ∧ Hid ((∀ j, x ≤ j → j < on → cf s l on (D.getD j 0) < 0) ∧ Below wo.heap.size wo wr)) (fun a _ => (intOf a).toNat)
      case atStart => exact ⟨on, rfl, Nat.le_refl _, Lib.hid ⟨fun j h1 h2 => by omega, Below.refl _ _⟩⟩
      case round =>
        obtain ⟨x, rfl, hx, hJ⟩ := hrel
        have hbr : Below w.heap.size w wr := Hbw.out.trans (hJ.out.2.mono Hbw.out.size)
        have SB2 := Lib.hid (SB.out.below SB.out.lt hJ.out.2)
        have HO2 := Lib.hid (HO.out.below hJ.out.2)
        obtain ⟨fv, hfv⟩ : ∃ fv, fv = tr (0 < x ∧ 0 < cf s l (D.getD (x - 1) 0) on) := ⟨_, rfl⟩
        have Hfv := Lib.hid hfv
        have HJ := Lib.hid hJ.out
        have Hbr := Lib.hid hbr
        have Hdone := Lib.hid (fun h2 => (show D.take x ++ on :: D.drop x = Ssm.srt (cf s l) (List.range (on + 1)) from by
          have := put_one (wk s l) hx (by rw [← HD.out]; exact HJ.out.1) h2
          rw [← HD.out] at this
          exact this))
        clear hfv hJ hbr
        by_cases hx0 : 0 < x
        · obtain ⟨y, hy⟩ : ∃ y, y + 1 = x := ⟨x - 1, by omega⟩
          have hyx : x - 1 = y := by omega
          have zk : (x : Int) - 1 = (y : Int) := by omega
          have rk : IntKind.i64.wrap (y : Int) = (y : Int) := by rw [IntKind.wrap_i64]; omega
          have kpI : (y : Int) < (on : Int) := by omega
          have hd : decide ((0 : Int) < (x : Int)) = true := decide_eq_true (by omega)
          have hd' : decide (0 < x) = true := decide_eq_true hx0
          obtain ⟨ob, of, hOA, _, o0⟩ := HO2.out.rd y (by rw [Ssm.ns_len, HDl.out]; omega)
          rw [Ssm.ns_get] at o0
          subst hOA
          have hdm := HDm.out y (by omega)
          obtain ⟨t, ht⟩ : ∃ t, t = D.getD y 0 := ⟨_, rfl⟩
          rw [← ht] at o0 hdm
          obtain ⟨b, f, A1, n1, c1, hA, _, r0, hV1⟩ := (HL.out.below Hbr.out).at_ t (by have := Hl.out; omega)
          obtain ⟨b', f', A2, n2, c2, hA', _, r1, hV2⟩ := (HL.out.below Hbr.out).at_ on (by have := Hl.out; omega)
          subst hA
          cases hA'
          have tm : (t : Int) < (m : Int) := by omega
          have g1 := Hst.out t (by omega)
          have g2 := Hst.out on hlt
          have Ca := Lib.hid (fun W (hb : Below wr.heap.size wr W) => after_any A n c s A1 n1 c1 _ A2 n2 c2 _ W (hV1.below hb) (hV2.below hb) g1.1 g2.1 g1.2)
          have hfe : tr (0 < cm s (l.getD t []) (l.getD on [])) = fv := by
            rw [Hfv.out, hyx, ← ht]
            exact tr_congr ⟨fun z => ⟨hx0, z⟩, fun z => z.2⟩
          rw [hfe] at Ca
          have bk : ∀ {W : World} {a : Addr} {v : Value}, Below wr.heap.size wr W → wr.cell? a = some v → W.cell? a = some v := fun {W a v} hb hc => (hb.cell (World.block_lt_of_cell? wr a hc)).trans hc
          have sb := five SB2.out
          have ZZ := Lib.hid (fun (W : World) (hb : Below wr.heap.size wr W) => (show W.cell? ⟨w.heap.size, 0, none⟩ = some (.slice A n c) ∧ W.cell? ⟨w.heap.size, 1, none⟩ = some (.int .i64 s.key) ∧ W.cell? ⟨w.heap.size, 2, none⟩ = some (.int .i64 s.cmp) ∧ W.cell? ⟨w.heap.size, 3, none⟩ = some (.int .i64 s.del) ∧ W.cell? ⟨w.heap.size, 4, none⟩ = some (.int .i64 s.sort) ∧ W.cell? ⟨ob, of + y, none⟩ = some (.int .i64 t) ∧ W.cell? ⟨b, f + t, none⟩ = some (.slice A1 n1 c1) ∧ W.cell? ⟨b, f + on, none⟩ = some (.slice A2 n2 c2) from
            ⟨bk hb sb.1, bk hb sb.2.1, bk hb sb.2.2.1, bk hb sb.2.2.2.1, bk hb sb.2.2.2.2, bk hb o0, bk hb r0, bk hb r1⟩))
          clear bk sb r0 r1 o0 hV1 hV2 g1 g2 hfe ht hdm hy hyx
          have hb : Below wr.heap.size wr wr.drew := (Below.refl _ _).drew
          have z10 := ZZ.out wr.drew hb
          go_wp2_with fail
          go_region_held3 (fun W => W.cell? ⟨w.heap.size, 0, none⟩ = some (.slice A n c) ∧ W.cell? ⟨w.heap.size, 1, none⟩ = some (.int .i64 s.key) ∧ W.cell? ⟨w.heap.size, 2, none⟩ = some (.int .i64 s.cmp) ∧ W.cell? ⟨w.heap.size, 3, none⟩ = some (.int .i64 s.del) ∧ W.cell? ⟨w.heap.size, 4, none⟩ = some (.int .i64 s.sort) ∧ W.cell? ⟨ob, of + y, none⟩ = some (.int .i64 t) ∧ W.cell? ⟨b, f + t, none⟩ = some (.slice A1 n1 c1) ∧ W.cell? ⟨b, f + on, none⟩ = some (.slice A2 n2 c2)) (with_reducible first | exact z10) (first
            | (go_at_call 56; (with_reducible refine (Ca.out _ hb).mono ?_); rintro e w5 ⟨rfl, hB5⟩; have hb := hb.trans (hB5.mono hb.size); have z10 := ZZ.out _ hb))
          all_goals (
            have Hb := Lib.hid hb
            clear hb z10 ZZ Ca
            cases fv
            case false =>
              have H := Lib.hid (Hdone.out (.inr (by
                by_cases z : 0 < cf s l ((Ssm.srt (cf s l) (List.range on)).getD (x - 1) 0) on
                · have := Hfv.out
                  rw [tr_yes ⟨hx0, by rw [HD.out]; exact z⟩] at this
                  cases this
                · omega)))
              go_upto_region 11 with fail
              have HbE := Lib.hid (HJ.out.2.trans (Hb.out.mono HJ.out.2.size))
              have hsz := HbE.out.size
              have HOE := Lib.hid (HO.out.below HbE.out)
              have hxk : x ≤ oc := by omega
              have xI : (x : Int) ≤ (on : Int) := by omega
              have xI2 : (x : Int) ≤ (oc : Int) := by omega
              have S2 := Lib.hid (HOE.out.head x hx)
              go_upto_region 12 with (at_builtin; refine Wd.wpList_app _ rfl (.const (.slice none 0 0)) (.tmp 45) 25 rfl wo.heap.size 3 i0 _ .i64 8 Tryz.underlying25 I0.out.1 I0.out.2.1 I0.out.2.2.1 I0.out.2.2.2 rfl _ [] rfl (World.ownsRow_nil _ _ _ _) _ _ _ _ ((ns D).take x) rfl S2.out.len S2.out.nil S2.out.rd (by have := S2.out.len; simp <;> omega) (by have := S2.out.len; unfold maxLen; simp <;> omega) hsz ?_; intro v1 w6 hown1 hg1)
              have HbF := Lib.hid (HbE.out.grown hg1 hsz (fun k e => by cases e))
              have R1 := Lib.hid (show Bx.Rw w6 wo.heap.size v1 ((ns D).take x) from hown1)
              have hl1 := Lib.hid (show ((ns D).take x).length ≤ 1000000 by have := S2.out.len; omega)
              clear hown1 hg1 hsz S2 HOE
              go_upto_region 13 with (at_builtin; refine Bx.wpList_app wo rfl (.tmp 47) (.tmp 49) rfl w6 v1 ((ns D).take x) rfl R1.out (on : Int) rfl hl1.out HbF.out ?_; intro v2 w7 hown2 hb7)
              have R2 := Lib.hid hown2
              have Hb7 := Lib.hid hb7
              have hsz := hb7.size
              have S4 := Lib.hid (show Wd.Sl w7 .i64 (if oc = x then some ⟨ob, of, none⟩ else some ⟨ob, of + x, none⟩) (on - x) (oc - x) ((ns D).drop x) from by have := (HO.out.below hb7).cut x hx; simpa only [Option.map_some, Addr.add_lit] using this)
              have hl2 := Lib.hid (show ((ns D).take x ++ [(on : Int)]).length + ((ns D).drop x).length ≤ 1000001 by rw [List.length_append, List.length_take, List.length_drop, Ssm.ns_len]; have := HDl.out; simp; omega)
              clear hown2 hb7 R1 hl1 HbF
              go_wp2_with (at_builtin; refine Wd.wpList_app _ rfl (.tmp 51) (.tmp 54) 25 rfl wo.heap.size 3 i0 _ .i64 8 Tryz.underlying25 I0.out.1 I0.out.2.1 I0.out.2.2.1 I0.out.2.2.2 rfl v2 _ rfl R2.out _ _ _ _ ((ns D).drop x) rfl S4.out.len S4.out.nil S4.out.rd (by have := hl2.out; omega) (by have := hl2.out; unfold maxLen; omega) hsz ?_; intro v3 w8 hown3 hg3)
              have B8 := Lib.hid (Hb7.out.grown hg3 hsz (fun k e => (World.ownsRow.lt R2.out k e).1))
              have hL8 : (ns D).take x ++ [(on : Int)] ++ (ns D).drop x = ns (Ssm.srt (cf s l) (List.range (on + 1))) := by rw [← H.out, ns_app, ns_take, List.append_assoc, ← ns_drop]; rfl
              have R8 := Lib.hid (show Bx.Rw w8 w1.heap.size v3 (ns (Ssm.srt (cf s l) (List.range (on + 1)))) from by rw [hL8] at hown3; exact Wd.own_down hown3 HI.out.2.size)
              clear hown3 hg3 hsz hL8
              go_roundw
              case rel => exact ⟨on + 1, by go_num, by omega, Lib.hid ⟨R8.out, HI.out.2.trans (B8.out.mono HI.out.2.size)⟩⟩
              case measure => simp [intOf]; omega
            case true =>
              have H := Lib.hid (show (∀ j, y ≤ j → j < on → cf s l on (D.getD j 0) < 0) from fun j h1 h2 => by
                by_cases z : j = y
                · have := ((tr_iff (p := (0 < x ∧ 0 < cf s l (D.getD (x - 1) 0) on))).1 Hfv.out.symm).2
                  rw [z]
                  have e := (wk s l).neg on (D.getD y 0)
                  rw [show x - 1 = y by omega] at this
                  omega
                · exact HJ.out.1 j (by omega) h2)
              go_wp2_with fail
              go_roundw
              case rel => exact ⟨y, by go_num, by omega, Lib.hid ⟨H.out, HJ.out.2.trans (Hb.out.mono HJ.out.2.size)⟩⟩
              case measure => simp [intOf]; omega)
        · obtain rfl : x = 0 := by omega
          have hd : decide ((0 : Int) < ((0 : Nat) : Int)) = false := by decide
          have H := Lib.hid (Hdone.out (.inl rfl))
          go_wp2_with fail
          go_quiet (fail)
          go_upto_region 11 with fail
          have HbE := Lib.hid (Wd.below_drewN HJ.out.2 nq)
          have hsz := HbE.out.size
          have HOE := Lib.hid (HO.out.below HbE.out)
          have hxk : 0 ≤ oc := by omega
          have xI : (0 : Int) ≤ (on : Int) := by omega
          have xI2 : (0 : Int) ≤ (oc : Int) := by omega
          have S2 := Lib.hid (HOE.out.head 0 hx)
          go_upto_region 12 with (at_builtin; refine Wd.wpList_app _ rfl (.const (.slice none 0 0)) (.tmp 45) 25 rfl wo.heap.size 3 i0 _ .i64 8 Tryz.underlying25 I0.out.1 I0.out.2.1 I0.out.2.2.1 I0.out.2.2.2 rfl _ [] rfl (World.ownsRow_nil _ _ _ _) _ _ _ _ ((ns D).take 0) rfl S2.out.len S2.out.nil S2.out.rd (by have := S2.out.len; simp <;> omega) (by have := S2.out.len; unfold maxLen; simp <;> omega) hsz ?_; intro v1 w6 hown1 hg1)
          have HbF := Lib.hid (HbE.out.grown hg1 hsz (fun k e => by cases e))
          have R1 := Lib.hid (show Bx.Rw w6 wo.heap.size v1 ((ns D).take 0) from hown1)
          have hl1 := Lib.hid (show ((ns D).take 0).length ≤ 1000000 by have := S2.out.len; omega)
          clear hown1 hg1 hsz S2 HOE
          go_upto_region 13 with (at_builtin; refine Bx.wpList_app wo rfl (.tmp 47) (.tmp 49) rfl w6 v1 ((ns D).take 0) rfl R1.out (on : Int) rfl hl1.out HbF.out ?_; intro v2 w7 hown2 hb7)
          have R2 := Lib.hid hown2
          have Hb7 := Lib.hid hb7
          have hsz := hb7.size
          have S4 := Lib.hid (show Wd.Sl w7 .i64 OA on oc ((ns D).drop 0) from by rw [List.drop_zero]; exact HO.out.below hb7)
          have hl2 := Lib.hid (show ((ns D).take 0 ++ [(on : Int)]).length + ((ns D).drop 0).length ≤ 1000001 by rw [List.length_append, List.length_take, List.length_drop, Ssm.ns_len]; have := HDl.out; simp; omega)
          clear hown2 hb7 R1 hl1 HbF
          go_wp2_with (at_builtin; refine Wd.wpList_app _ rfl (.tmp 51) (.tmp 54) 25 rfl wo.heap.size 3 i0 _ .i64 8 Tryz.underlying25 I0.out.1 I0.out.2.1 I0.out.2.2.1 I0.out.2.2.2 rfl v2 _ rfl R2.out _ _ _ _ ((ns D).drop 0) rfl S4.out.len S4.out.nil S4.out.rd (by have := hl2.out; omega) (by have := hl2.out; unfold maxLen; omega) hsz ?_; intro v3 w8 hown3 hg3)
          have B8 := Lib.hid (Hb7.out.grown hg3 hsz (fun k e => (World.ownsRow.lt R2.out k e).1))
          have hL8 : (ns D).take 0 ++ [(on : Int)] ++ (ns D).drop 0 = ns (Ssm.srt (cf s l) (List.range (on + 1))) := by rw [← H.out, ns_app, ns_take, List.append_assoc, ← ns_drop]; rfl
          have R8 := Lib.hid (show Bx.Rw w8 w1.heap.size v3 (ns (Ssm.srt (cf s l) (List.range (on + 1)))) from by rw [hL8] at hown3; exact Wd.own_down hown3 HI.out.2.size)
          clear hown3 hg3 hsz hL8
          go_roundw
          case rel => exact ⟨on + 1, by go_num, by omega, Lib.hid ⟨R8.out, HI.out.2.trans (B8.out.mono HI.out.2.size)⟩⟩
          case measure => simp [intOf]; omega
    · obtain rfl : on = m := by omega
      have hkI : ¬ (on : Int) < (on : Int) := by omega
      have H := Lib.hid (show Wd.Sl wr .i64 OA on oc (ns (order s l)) ∧ Below w.heap.size w wr ∧ ∀ a, OA = some a → w.heap.size ≤ a.block from ⟨by rw [Ho.out, ← hD]; exact hO, Hb1.out.trans (hI.out.2.mono Hb1.out.size), fun a ha => Nat.le_trans Hb1.out.size (Wd.own_lt hI.out.1 (x := a.block) (by rw [ha]; rfl)).2.1⟩)
      clear hO hI hD hDl hDm
      go_wp2_with fail
      go_ret
      exact ⟨_, _, _, rfl, H.out.1, H.out.2.1, H.out.2.2⟩
end Se
end Go.Proofs.YtaoeipehpakngaaGreatDoor
namespace Go.Proofs.YtaoeipehpakngaaGreatDoor
set_option maxRecDepth 20000
open Go.RowKit
namespace Se
open Va (Vl May)
open Sc (Sch MayS FitS tr tr_yes tr_no tr_iff tr_congr)
open Sx (Sb five)
open Wd (Cr)
theorem may_size {v : Vl} (h : May v) : v.s.size ≤ maxLen := by
  unfold maxLen
  rcases h with h | h | h | h
  · rw [h.2.2.1]; decide
  · rw [h.2.1]; decide
  · have := h.2.2.1; omega
  · rw [h.2.2]; decide
end Se
end Go.Proofs.YtaoeipehpakngaaGreatDoor
