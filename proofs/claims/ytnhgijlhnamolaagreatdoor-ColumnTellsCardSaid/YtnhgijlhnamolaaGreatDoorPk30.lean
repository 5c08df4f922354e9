/- What the reference of layer 10 does: Ids. Words on memory, over any program: a slice of slices of bytes; a row of the call's own whose elements are slices that it owns; append of such as a step of a region. -/
import Derived.StillTailTactics
import Derived.BigQuiet
import Derived.Deep.QuietTactic
import Derived.Deep.RegionHeld3
import Derived.WalkKit
import Derived.RangeFuncBox
import Derived.Test.YtnhgijlhnamolaaGreatDoorPk07
import Derived.Test.YtnhgijlhnamolaaGreatDoorPk19
import Derived.Test.YtnhgijlhnamolaaGreatDoorPk10
namespace Go.Proofs.YtnhgijlhnamolaaGreatDoor
set_option maxRecDepth 20000
open Go.RowKit
namespace Cx
open Va (Vl May ord null)
open Sc (tr tr_yes tr_no tr_iff)
open Co
/-- Which numbers below so many have come among the first k. -/
def Seen (l : List Int) (sb : List Bool) (n k : Nat) : Prop := sb.length = n ∧ ∀ j, j < n → sb.getD j false = decide ((j : Int) ∈ l.take k)
theorem seen_zero (l : List Int) (n : Nat) : Seen l (List.replicate n false) n 0 := ⟨by simp, fun j hj => by simp [List.getD, hj]⟩
theorem seen_next {l : List Int} {sb : List Bool} {n k p : Nat} (h : Seen l sb n k) (hk : k < l.length) (hp : l.getD k 0 = (p : Int)) (hpn : p < n) : Seen l (sb.set p true) n (k + 1) := by
  refine ⟨by simpa using h.1, fun j hj => ?_⟩
  have ht : l.take (k + 1) = l.take k ++ [(p : Int)] := by
    rw [List.take_succ_eq_append_getElem hk]
    rw [List.getD_eq_getElem?_getD, List.getElem?_eq_getElem hk, Option.getD_some] at hp
    rw [hp]
  rw [ht]
  by_cases e : p = j
  · subst e
    have : p < sb.length := by rw [h.1]; exact hpn
    simp [List.getD, this]
  · have h2 := h.2 j hj
    have : (sb.set p true).getD j false = sb.getD j false := by
      simp [List.getD, List.getElem?_set_ne e]
    rw [this, h2]
    refine decide_eq_decide.2 ?_
    rw [List.mem_append, List.mem_singleton]
    constructor
    · exact .inl
    · rintro (q | q)
      · exact q
      · omega
set_option maxHeartbeats 8000000 in
theorem refIds_any (A : Option Addr) (n c : Nat) (B : Option Addr) (m d : Nat) (C : Col) (w : World) (h : Cl w A n c B m d C) (hn : n ≤ 100000) (hm : m ≤ 1000000) :
    Calls Tryz.prog 6 #[.agg #[.int .i64 C.n, .slice A n c, .slice B m d]] w (OutB w (nums C) (tr (Valid C))) := by
  obtain ⟨i0, hi, hz0, hz1, hz2⟩ := info_parts info_b
  have hb0 := (Below.refl w.heap.size w).alloc (Nat.le_refl _) (.cells #[.int .i64 C.n, .slice A n c, .slice B m d] 25)
  have x0 := Cb.new w C.n A n c B m d
  have h1 := h.below hb0
  have hcap := h.dict.cap
  have hmx := h.dict.max
  have hcap2 := h.ids.cap
  have hmx2 := h.ids.max
  unfold maxLen at hmx hmx2
  have n0 := h.n0
  have n1 := h.n1
  have hnl : n = C.dict.length := h.dict.len
  have C1 := Lib.hid (Dx.refRises_any A n c C.dict _ h1.dict h1.str)
  have Cw := Lib.hid fun w => width_any n (by omega) w
  have Cu := Lib.hid fun w' (hb : Below w.heap.size w w') => Bc.refUn_any B m d C.n (wdt C.dict) C.ids w' (h.ids.below hb) h.byt hm
  have Hb0 := Lib.hid hb0
  have Hn := Lib.hid hnl
  obtain ⟨r, hr⟩ : ∃ r, r = tr (Valid C) := ⟨_, rfl⟩
  obtain ⟨L, hL⟩ : ∃ L, L = nums C := ⟨_, rfl⟩
  rw [← hr, ← hL]
  have Hr := Lib.hid hr
  have HL := Lib.hid hL
  obtain ⟨rs, hrs⟩ : ∃ rs, rs = tr (Dc.Ris C.dict) := ⟨_, rfl⟩
  rw [← hrs] at C1
  have Hrs := Lib.hid hrs
  obtain ⟨W, hW⟩ : ∃ W, W = wdt C.dict := ⟨_, rfl⟩
  have HW := Lib.hid hW
  have e3 : Bc.wid ((n : Int) - 1) = W := by rw [hW, hnl]; rfl
  rw [e3] at Cw
  rw [← hW] at Cu
  obtain ⟨N, hN⟩ : ∃ N, N = C.n := ⟨_, rfl⟩
  rw [← hN] at x0 C1 Cu Hb0 n0 n1 ⊢
  have HN := Lib.hid hN
  obtain ⟨E, hE⟩ : ∃ E, E = Bc.unE C.ids N W := ⟨_, rfl⟩
  obtain ⟨U, hU⟩ : ∃ U, U = Bc.unL C.ids N W := ⟨_, rfl⟩
  rw [← hE, ← hU] at Cu
  have HE := Lib.hid (show E = Bc.unE C.ids C.n (wdt C.dict) by rw [hE, hN, hW])
  have HU := Lib.hid (show U = un C by rw [hU, hN, hW]; rfl)
  clear hE hU
  have bad : ¬ Valid C → Hid (r = false ∧ L = []) := fun q => Lib.hid ⟨by rw [Hr.out, tr_no q], by rw [HL.out, nums_no q]⟩
  have Bad := Lib.hid bad
  clear h hb0 h1 hnl hr hL hrs hW e3 hN bad
  have c0 := x0.c0
  have c1 := x0.c1
  have c2 := x0.c2
  go_enter Tryz.func6, Tryz.ntmps6
  go_wp2_with fail
  refine C1.out.mono ?_
  rintro e w1 ⟨rfl, hB1⟩
  have y0 := x0.below (by simp) hB1
  have c0' := y0.c0
  have c1' := y0.c1
  have c2' := y0.c2
  have HB1 := Lib.hid (Hb0.out.trans (hB1.mono (by simp)))
  clear c0 c1 c2 x0 hB1
  by_cases hN0 : N < 0
  · have hq := (Bad.out fun q => by have := q.n0; have := HN.out; omega).out
    have hd0 : decide (N < 0) = true := decide_eq_true hN0
    have HQ := Lib.hid hq
    clear hq
    go_wp2_with fail
    go_ret2
    exact ⟨_, _, _, by rw [HQ.out.1]; rfl, by rw [HQ.out.2]; exact Wd.Sl.none_ _ _, HB1.out⟩
  have hd0 : decide (N < 0) = false := decide_eq_false hN0
  by_cases hN1 : 4096 < N
  · have hq := (Bad.out fun q => by have := q.n1; have := HN.out; omega).out
    have hd1 : decide (4096 < N) = true := decide_eq_true hN1
    have HQ := Lib.hid hq
    clear hq
    go_wp2_with fail
    go_ret2
    exact ⟨_, _, _, by rw [HQ.out.1]; rfl, by rw [HQ.out.2]; exact Wd.Sl.none_ _ _, HB1.out⟩
  have hd1 : decide (4096 < N) = false := decide_eq_false hN1
  cases rs with
  | false =>
    have hq := (Bad.out fun q => by have := Hrs.out; rw [tr_yes q.ris] at this; cases this).out
    have HQ := Lib.hid hq
    clear hq
    go_wp2_with fail
    go_ret2
    exact ⟨_, _, _, by rw [HQ.out.1]; rfl, by rw [HQ.out.2]; exact Wd.Sl.none_ _ _, HB1.out⟩
  | true =>
  have hris := Lib.hid (show Dc.Ris C.dict from tr_iff.1 Hrs.out.symm)
  have Cv := Lib.hid fun w => ((Cw.out w).mono fun e w' h => ⟨h.1, by rw [h.2]; exact Below.refl _ _⟩ : Calls Tryz.prog 24 #[.int .i64 (n : Int)] w fun e w' => e = .returned (.int .i64 (W : Int)) ∧ Below w.heap.size w w')
  have hsw : w.heap.size < w1.heap.size := y0.lt
  go_wp2_with fail
  have hb := (Below.refl w1.heap.size w1).drew
  have z10 : w1.drew.cell? ⟨w.heap.size, 0, none⟩ = some (.int .i64 N) ∧ w1.drew.cell? ⟨w.heap.size, 1, none⟩ = some (.slice A n c) ∧ w1.drew.cell? ⟨w.heap.size, 2, none⟩ = some (.slice B m d) := ⟨c0', c1', c2'⟩
  go_region_held3 (fun w' => w'.cell? ⟨w.heap.size, 0, none⟩ = some (.int .i64 N) ∧ w'.cell? ⟨w.heap.size, 1, none⟩ = some (.slice A n c) ∧ w'.cell? ⟨w.heap.size, 2, none⟩ = some (.slice B m d)) (with_reducible first | exact z10) (first
    | (go_at_call 24; (with_reducible refine (Cv.out _).mono ?_); rintro e wz ⟨rfl, hBz⟩; have hb := hb.trans (hBz.mono hb.size); have y9 := y0.below hsw hb; have z10 := And.intro y9.c0 (And.intro y9.c1 y9.c2))
    | (go_at_call 23; refine (Cu.out _ (HB1.out.trans (hb.mono HB1.out.size))).mono ?_; rintro e wz ⟨P, p, q, rfl, hSu, hBz⟩; have hb := hb.trans (hBz.mono hb.size); have y9 := y0.below hsw hb; have z10 := And.intro y9.c0 (And.intro y9.c1 y9.c2)))
  have HBz := Lib.hid (HB1.out.trans (hb.mono HB1.out.size))
  have c1'' := z10.2.1
  clear z10 c0' c1' c2' Cu Cv Cw C1 hBz hb
  by_cases hE0 : E = 0
  case neg =>
    have hq := (Bad.out fun q => hE0 (HE.out.trans q.un0)).out
    have hd2 : (E == 0) = false := by simpa using hE0
    have HQ := Lib.hid hq
    clear hq
    go_wp2_with fail
    go_ret2
    exact ⟨_, _, _, by rw [HQ.out.1]; rfl, by rw [HQ.out.2]; exact Wd.Sl.none_ _ _, HBz.out⟩
  subst hE0
  have hUl := hSu.len
  have hUc := hSu.cap
  have hUm := hSu.max
  unfold maxLen at hUm
  have HSu := Lib.hid hSu
  have HUl := Lib.hid hUl
  have hp1 : p ≤ 4096 := by
    have h1 := un_len HE.out.symm
    rw [← HU.out, ← HN.out, ← HUl.out] at h1
    omega
  have y9lt := y9.lt
  clear hSu hUl
  go_wp2_with (at_make; refine wpList_make_full _ rfl (.tmp 41) (.tmp 41) 58 rfl wz.heap.size 4 i0 _ 1 Tryz.underlying58 hi hz0 hz1 .i64 .i64 (n : Int) (n : Int) n rfl rfl rfl rfl (by rw [hz2]; omega) (by unfold maxLen; omega) (Nat.le_refl _) ?_; intro w3 hown hgrow; rw [made_false] at hown)
  obtain ⟨hR0, hg0, -⟩ := RowB.of_own hown
  have hB3 : Below wz.heap.size wz w3 := (Below.refl _ _).grown hgrow (Nat.le_refl _) (by simp)
  have hgl := hR0.lt
  have HB3 := Lib.hid hB3
  have c3 := (y9.below y9lt hB3).c1
  clear hown hgrow hB3 c1''
  go_loopw [8] (fun j wr => ∃ (k : Nat) (sb : List Bool), j = .int .i64 k ∧ k ≤ p ∧ RowB wr wz.heap.size sb ∧ Hid (Seen U sb n k) ∧ Hid (∀ i, i < k → U.getD i 0 < (n : Int)) ∧ Below wz.heap.size w3 wr) (fun j _ => p - (intOf j).toNat)
  case atStart => exact ⟨0, _, rfl, Nat.zero_le _, hR0, Lib.hid (seen_zero U n), Lib.hid (fun i hi => by omega), Below.refl _ _⟩
  case round =>
    obtain ⟨k, sb, rfl, hk, hR, hS, hlt, hB⟩ := hrel
    have hbw := HB3.out.trans hB
    have c4 := (y9.below y9lt hbw).c1
    clear c3
    by_cases hkp : k < p
    · have hkI : (k : Int) < p := by omega
      have hk0 : (0 : Int) ≤ (k : Int) := by omega
      have hkU : k < U.length := by rw [← HUl.out]; exact hkp
      obtain ⟨b, o, hP, hbl, hc⟩ := (HSu.out.below hbw).rd k hkU
      subst hP
      obtain ⟨x, hx⟩ : ∃ x, x = U.getD k 0 := ⟨_, rfl⟩
      have hx0 : 0 ≤ x := by
        rw [hx, List.getD_eq_getElem?_getD, List.getElem?_eq_getElem hkU]
        exact un_bd C _ (by rw [← HU.out]; exact List.getElem_mem hkU)
      rw [← hx] at hc
      have Hx := Lib.hid hx
      have HkU := Lib.hid hkU
      clear hx hkU
      by_cases hxn : x < (n : Int)
      · obtain ⟨z, hz⟩ : ∃ z : Nat, x = (z : Int) := ⟨x.toNat, by omega⟩
        subst hz
        have hzn : z < n := by omega
        have hsl := hS.out.1
        have hnext := Lib.hid (seen_next hS.out HkU.out Hx.out.symm hzn)
        have hR2 := Lib.hid hR
        have hf := hR.free z
        have hcz := hR.cell z (by omega)
        have hd3 : decide ((n : Int) ≤ (z : Int)) = false := decide_eq_false (by omega)
        have HB := Lib.hid hB
        have hlt2 := Lib.hid (show ∀ i, i < k + 1 → U.getD i 0 < (n : Int) from fun i hi => by
          by_cases e : i = k
          · rw [e, ← Hx.out]; exact hxn
          · exact hlt.out i (by omega))
        clear hS hR hB hlt hbw hsl
        go_wp2_with fail
        go_quiet (fail)
        go_wp2_with fail
        go_roundw
        case rel => exact ⟨k + 1, sb.set z true, by go_num, by omega, hR2.out.set z true, hnext, hlt2, (Wd.below_drewN HB.out _).setCell (Nat.le_refl _) _⟩
        case measure => simp [intOf]; omega
      · have hq := (Bad.out fun q => by
          have h1 := q.lt x (by
            rw [Hx.out, ← HU.out, List.getD_eq_getElem?_getD, List.getElem?_eq_getElem HkU.out]
            exact List.getElem_mem HkU.out)
          rw [← Hn.out] at h1
          omega).out
        have HQ := Lib.hid hq
        have hd3 : decide ((n : Int) ≤ x) = true := decide_eq_true (by omega)
        have HB := Lib.hid (HBz.out.trans (hbw.mono HBz.out.size))
        clear hq hB hbw
        go_wp2_with fail
        go_quiet (fail)
        go_wp2_with fail
        go_ret2
        exact ⟨_, _, _, by rw [HQ.out.1]; rfl, by rw [HQ.out.2]; exact Wd.Sl.none_ _ _, Wd.below_drewN HB.out _⟩
    · have hkI : ¬ (k : Int) < p := by omega
      have hfin := Lib.hid (show sb.length = n ∧ ∀ j, j < n → sb.getD j false = decide ((j : Int) ∈ U) from ⟨hS.out.1, fun j hj => by
        have := hS.out.2 j hj
        rwa [List.take_of_length_le (by rw [← HUl.out]; omega)] at this⟩)
      have hall := Lib.hid (show ∀ x ∈ U, x < (n : Int) from fun x hx => by
        obtain ⟨i, hi, e⟩ := List.getElem_of_mem hx
        have := hlt.out i (by rw [← HUl.out] at hi; omega)
        rw [List.getD_eq_getElem?_getD, List.getElem?_eq_getElem hi, Option.getD_some, e] at this
        exact this)
      have HBr := Lib.hid (HBz.out.trans (hbw.mono HBz.out.size))
      have HSr := Lib.hid (HSu.out.below hbw)
      have HR := Lib.hid hR
      clear hS hlt hB hbw hR c4 hR0
      obtain ⟨wo, rfl⟩ : ∃ wo : World, wo = wr := ⟨_, rfl⟩
      go_wp2_with fail
      go_loopw [9] (fun j wr => ∃ (k : Nat), j = .int .i64 k ∧ k ≤ n ∧ wr = wo ∧ Hid (∀ i, i < k → ((i : Nat) : Int) ∈ U)) (fun j _ => n - (intOf j).toNat)
      case atStart => exact ⟨0, rfl, Nat.zero_le _, rfl, Lib.hid (fun i hi => by omega)⟩
      case round =>
        obtain ⟨k, rfl, hk, rfl, hin⟩ := hrel
        by_cases hkn : k < n
        · have hkI : (k : Int) < n := by omega
          have hk0 : (0 : Int) ≤ (k : Int) := by omega
          have hcz := HR.out.cell k (by rw [hfin.out.1]; exact hkn)
          rw [hfin.out.2 k hkn] at hcz
          by_cases hmem : (k : Int) ∈ U
          · rw [decide_eq_true hmem] at hcz
            have hin2 := Lib.hid (show ∀ i, i < k + 1 → ((i : Nat) : Int) ∈ U from fun i hi => by
              by_cases e : i = k
              · rw [e]; exact hmem
              · exact hin.out i (by omega))
            clear hin hmem
            go_wp2_with fail
            go_roundw
            case rel => exact ⟨k + 1, by go_num, by omega, trivial, hin2⟩
            case measure => simp [intOf]; omega
          · rw [decide_eq_false hmem] at hcz
            have hq := (Bad.out fun q => hmem (by rw [HU.out]; exact q.all k (by rw [← Hn.out]; exact hkn))).out
            have HQ := Lib.hid hq
            clear hq hmem hin
            go_wp2_with fail
            go_ret2
            exact ⟨_, _, _, by rw [HQ.out.1]; rfl, by rw [HQ.out.2]; exact Wd.Sl.none_ _ _, HBr.out⟩
        · have hkI : ¬ (k : Int) < n := by omega
          have hv : Valid C := ⟨by rw [← HN.out]; omega, by rw [← HN.out]; omega, hris.out, HE.out.symm, fun x hx => by rw [← Hn.out]; exact hall.out x (by rw [HU.out]; exact hx), fun j hj => by rw [← HU.out]; exact hin.out j (by rw [← Hn.out] at hj; omega)⟩
          have HQ := Lib.hid (show r = true ∧ L = U from ⟨by rw [Hr.out, tr_yes hv], by rw [HL.out, nums_yes hv, HU.out]⟩)
          clear hv hin
          go_wp2_with fail
          go_ret2
          exact ⟨_, _, _, by rw [HQ.out.1]; rfl, by rw [HQ.out.2]; exact HSr.out, HBr.out⟩
end Cx
end Go.Proofs.YtnhgijlhnamolaaGreatDoor
namespace Go.Proofs.YtnhgijlhnamolaaGreatDoor
set_option maxRecDepth 20000
open Go.RowKit
namespace Wd

/-- The slice value of address A, length n and capacity c holds slices of the bytes ys. -/
structure Ss (w : World) (A : Option Addr) (n c : Nat) (ys : List (List Int)) : Prop where
  len : n = ys.length
  cap : n ≤ c
  max : c ≤ maxLen
  nil : A = none → c = 0
  at_ : ∀ j, j < ys.length → ∃ b o A' n' c', A = some ⟨b, o, none⟩ ∧ b < w.heap.size ∧ w.cell? ⟨b, o + j, none⟩ = some (.slice A' n' c') ∧ Sl w .u8 A' n' c' (ys.getD j [])
theorem Ss.below {w w' : World} {A : Option Addr} {n c : Nat} {ys : List (List Int)} (h : Ss w A n c ys) (hb : Below w.heap.size w w') : Ss w' A n c ys :=
  ⟨h.len, h.cap, h.max, h.nil, fun j hj => by
    obtain ⟨b, o, A', n', c', e, hlt, hc, hs⟩ := h.at_ j hj
    have := hb.size
    exact ⟨b, o, A', n', c', e, by omega, (hb.cell (p := ⟨b, o + j, none⟩) hlt).trans hc, hs.below hb⟩⟩
theorem Ss.none_ (w : World) : Ss w none 0 0 [] := ⟨rfl, Nat.le_refl _, Nat.zero_le _, fun _ => rfl, fun _ h => by simp at h⟩
theorem Ss.head {w : World} {A : Option Addr} {n c : Nat} {ys : List (List Int)} (h : Ss w A n c ys) (q : Nat) (hq : q ≤ n) : Ss w A q c (ys.take q) := by
  obtain ⟨h0, h1, h2, h3, h4⟩ := h
  refine ⟨by rw [List.length_take]; omega, by omega, h2, h3, fun j hj => ?_⟩
  rw [List.length_take] at hj
  obtain ⟨b, o, A', n', c', e, hlt, hc, hs⟩ := h4 j (by omega)
  refine ⟨b, o, A', n', c', e, hlt, hc, ?_⟩
  rwa [show (ys.take q).getD j [] = ys.getD j [] by simp [List.getD, show j < q by omega]]
/-- A call of w ended in w' with a slice of slices and a number, and nothing that was there has turned. -/
def OutSs (w : World) (ys : List (List Int)) (k : Int) (e : Ending) (w' : World) : Prop :=
  ∃ A n c, e = .returned (.tuple #[.slice A n c, .int .i64 k]) ∧ Ss w' A n c ys ∧ Below w.heap.size w w'

/-- The values vs are slices that hold the bytes ys, each in a row of its own of type e. -/
def Hs (w : World) (e : TypeId) (vs : List Value) (ys : List (List Int)) : Prop :=
  vs.length = ys.length ∧ ∀ j, j < ys.length → w.ownsRow 0 e 1 (vs.getD j undef) (ys.getD j []).length ((ys.getD j []).map (Value.int .u8))
theorem Hs.nil (w : World) (e : TypeId) : Hs w e [] [] := ⟨rfl, fun _ h => by simp at h⟩
theorem Hs.below {w w' : World} {e : TypeId} {vs : List Value} {ys : List (List Int)} (h : Hs w e vs ys) (hb : Below w.heap.size w w') : Hs w' e vs ys := ⟨h.1, fun j hj => own_below (h.2 j hj) hb⟩
theorem Hs.snoc {w : World} {e : TypeId} {vs : List Value} {ys : List (List Int)} {v : Value} {y : List Int} (h : Hs w e vs ys) (hv : w.ownsRow 0 e 1 v y.length (y.map (Value.int .u8))) : Hs w e (vs ++ [v]) (ys ++ [y]) := by
  refine ⟨by simp [h.1], fun j hj => ?_⟩
  simp only [List.length_append, List.length_cons, List.length_nil] at hj
  by_cases q : j < ys.length
  · have e1 : (vs ++ [v]).getD j undef = vs.getD j undef := by simp only [List.getD]; rw [List.getElem?_append_left (by rw [h.1]; exact q)]
    have e2 : (ys ++ [y]).getD j [] = ys.getD j [] := by simp only [List.getD]; rw [List.getElem?_append_left q]
    rw [e1, e2]
    exact h.2 j q
  · obtain rfl : j = ys.length := by omega
    have e1 : (vs ++ [v]).getD ys.length undef = v := by rw [← h.1]; simp [List.getD]
    have e2 : (ys ++ [y]).getD ys.length [] = y := by simp [List.getD]
    rw [e1, e2]
    exact hv
/-- What a row of another type does in growing leaves them. -/
theorem Hs.grown {w w' : World} {e e' : TypeId} {vs : List Value} {ys : List (List Int)} {base n size : Nat} {v : Value} {xs : List Value} (h : Hs w e vs ys) (hr : w.ownsRow base e' size v n xs) (hne : e ≠ e') (hg : w.grownBy w' v.ownBlock) : Hs w' e vs ys :=
  ⟨h.1, fun j hj => (h.2 j hj).kept hg (by
    rcases (h.2 j hj).2 with ⟨q, _⟩ | ⟨g, cap, cur, q, _, hgb, _⟩
    · left; rw [q]; rfl
    · right
      rw [q]
      intro e1
      rcases hr.2 with ⟨rfl, _⟩ | ⟨g', cap', cur', rfl, _, hgb', _⟩
      · simp [Value.ownBlock] at e1
      · obtain rfl : g = g' := by simpa [Value.ownBlock] using e1
        rw [hgb] at hgb'
        simp only [Option.some.injEq, Obj.cells.injEq] at hgb'
        exact hne hgb'.2.1)⟩
theorem Hs.set {w : World} {e t : TypeId} {vs : List Value} {ys : List (List Int)} {B : Nat} {u u' : Value} (h : Hs w e vs ys) (hb : Boxed w B t u) (hne : t ≠ e) : Hs (w.setCell ⟨B, 0, none⟩ u') e vs ys :=
  ⟨h.1, fun j hj => (h.2 j hj).kept (grownBy_setCell' w B u') (.inr (hb.not_row hne (h.2 j hj)).symm)⟩
/-- What a slice owns it owns behind the turn of a block that is no cells. -/
theorem own_others {X Y : World} {base : Nat} {e : TypeId} {size n : Nat} {v : Value} {xs : List Value} {row : Option Nat} (hr : X.ownsRow base e size v n xs) (hg : X.grownBy Y row) (hrow : ∀ r, row = some r → ∃ o : Obj, X.heap[r]? = some o ∧ o.isCells = false) : Y.ownsRow base e size v n xs := by
  refine hr.kept hg ?_
  rcases hr.2 with ⟨rfl, _⟩ | ⟨g, cap, cur, rfl, _, hgb, _⟩
  · exact .inl rfl
  · refine .inr fun e' => ?_
    obtain ⟨o, ho, hc⟩ := hrow g (by simpa [Value.ownBlock] using e'.symm)
    rw [hgb] at ho; cases ho; cases hc
theorem Hs.others {X Y : World} {e : TypeId} {vs : List Value} {ys : List (List Int)} {row : Option Nat} (h : Hs X e vs ys) (hg : X.grownBy Y row) (hrow : ∀ r, row = some r → ∃ o : Obj, X.heap[r]? = some o ∧ o.isCells = false) : Hs Y e vs ys :=
  ⟨h.1, fun j hj => own_others (h.2 j hj) hg hrow⟩
/-- A row of such slices, as a slice of slices. -/
theorem Ss.of_own {w : World} {base n : Nat} {e e' : TypeId} {v : Value} {vs : List Value} {ys : List (List Int)} (h : w.ownsRow base e' 1 v n vs) (hs : Hs w e vs ys) : ∃ A n c, v = .slice A n c ∧ Ss w A n c ys := by
  have hn : n = ys.length := by have := h.1; rw [hs.1] at this; omega
  subst hn
  rcases h.2 with ⟨rfl, h0⟩ | ⟨g, cap, cur, rfl, hb, hg, h1, h2, h3, h4⟩
  · obtain rfl := List.eq_nil_of_length_eq_zero h0
    exact ⟨none, 0, 0, rfl, Ss.none_ _⟩
  · refine ⟨_, _, _, rfl, ⟨rfl, h1, h2, by simp, fun j hj => ?_⟩⟩
    obtain ⟨A', n', c', e1, hS⟩ := Sl.of_own (hs.2 j hj)
    refine ⟨g, 0, A', n', c', rfl, (Array.getElem?_eq_some_iff.1 hg).1, ?_, hS⟩
    have := h.cellAt (g := g) (cap := cap) j (by omega)
    rw [Nat.zero_add, this, ← e1]
    simp [List.getD, List.getElem?_eq_getElem (show j < vs.length by rw [hs.1]; exact hj)]

section
variable {P : Program} (w : World)
/-- append of one value onto a row of the call's own, as one step of a region that draws. -/
theorem step_app1 {ops : Array Oper} {o : Oper} {a : Act} {K : Act → World → Prop} {Q : Exit → Act → World → Prop} {E : Prop} (hgd : o.guard = none) (s x : Operand) (t : TypeId)
    (ho : o.op = .call { callee := .builtin .append, args := #[s, x], argTypes := #[t, t] })
    (B : Nat) (e : TypeId) (i : TypeInfo) (z : Value) (bytes : Nat) (ht : P.underlying t = some (.slice e)) (hi : P.info? e = some i) (hz : i.zero = some z)
    (hsize : i.size = 1) (hby : i.bytes = bytes) (hzs : z.cells.size = 1)
    (v : Value) (k : Nat) (xs : List Value) (hs : a.eval s = v) (hown : w.ownsRow B e 1 v k xs)
    (ad : Addr) (u : Value) (hx : a.eval x = .slice (some ad) 1 1) (hc : w.cell? ad = some u) (had : ad.add 0 = ad) (h1 : u.oneCell' = true)
    (h63 : k + 1 ≤ maxLen) (hbytes : (k + 1) * bytes ≤ 140737488355328) (hB : B ≤ w.heap.size)
    (h : ∀ v' w', w'.ownsRow B e 1 v' (k + 1) (xs ++ [u]) → w.grownBy w' v.ownBlock → K (a.put o.dst v') w') : if Region.wanted o (yielded ops a.tmps) = true then Oper.wp P o a w K Q else E := by
  rw [if_pos (by simp [Region.wanted, hgd])]
  obtain ⟨v', w', hrun, h2, h3, _⟩ := run_append_own (P := P) w B t o.type e i z 1 bytes ht hi hz hsize hby hzs (by decide) v k xs hown ad 1 1 [u] (by simp) (fun j q hj => by
    have hj1 : j < 1 := by simpa using (List.getElem?_eq_some_iff.1 hj).1
    obtain rfl : j = 0 := by omega
    simp only [List.getElem?_cons_zero, Option.some.injEq] at hj
    rw [had, ← hj]; exact hc) (by simpa using h1) h63 hbytes hB
  unfold Oper.wp
  simp [execOp, ho, resolve, invoke, builtin, hs, hx, hrun, Result.andThen]
  exact h v' w' h2 h3
/-- append of one value onto a row of the call's own. -/
theorem wpList_app1v {ops : Array Oper} {rest : List Oper} {o : Oper} {a : Act} {Q : Exit → Act → World → Prop} (hgd : o.guard = none) (s x : Operand) (t : TypeId)
    (ho : o.op = .call { callee := .builtin .append, args := #[s, x], argTypes := #[t, t] })
    (B : Nat) (e : TypeId) (i : TypeInfo) (z : Value) (bytes : Nat) (ht : P.underlying t = some (.slice e)) (hi : P.info? e = some i) (hz : i.zero = some z)
    (hsize : i.size = 1) (hby : i.bytes = bytes) (hzs : z.cells.size = 1)
    (v : Value) (k : Nat) (xs : List Value) (hs : a.eval s = v) (hown : w.ownsRow B e 1 v k xs)
    (ad : Addr) (u : Value) (hx : a.eval x = .slice (some ad) 1 1) (hc : w.cell? ad = some u) (had : ad.add 0 = ad) (h1 : u.oneCell' = true)
    (h63 : k + 1 ≤ maxLen) (hbytes : (k + 1) * bytes ≤ 140737488355328) (hB : B ≤ w.heap.size)
    (h : ∀ v' w', w'.ownsRow B e 1 v' (k + 1) (xs ++ [u]) → w.grownBy w' v.ownBlock → wpList P ops Q rest (a.put o.dst v') w') : wpList P ops Q (o :: rest) a w := by
  refine wpList_plain hgd fun K hK => ?_
  obtain ⟨v', w', hrun, h2, h3, _⟩ := run_append_own (P := P) w B t o.type e i z 1 bytes ht hi hz hsize hby hzs (by decide) v k xs hown ad 1 1 [u] (by simp) (fun j q hj => by
    have hj1 : j < 1 := by simpa using (List.getElem?_eq_some_iff.1 hj).1
    obtain rfl : j = 0 := by omega
    simp only [List.getElem?_cons_zero, Option.some.injEq] at hj
    rw [had, ← hj]; exact hc) (by simpa using h1) h63 hbytes hB
  unfold Oper.wp
  simp [execOp, ho, resolve, invoke, builtin, hs, hx, hrun, Result.andThen]
  exact hK _ _ (h v' w' h2 h3)
/-- append of many values, from whatever slice, onto a row of the call's own. -/
theorem wpList_appV {ops : Array Oper} {rest : List Oper} {o : Oper} {a : Act} {Q : Exit → Act → World → Prop} (hgd : o.guard = none) (s x : Operand) (t : TypeId)
    (ho : o.op = .call { callee := .builtin .append, args := #[s, x], argTypes := #[t, t] })
    (B : Nat) (e : TypeId) (i : TypeInfo) (z : Value) (bytes : Nat) (ht : P.underlying t = some (.slice e)) (hi : P.info? e = some i) (hz : i.zero = some z)
    (hsize : i.size = 1) (hby : i.bytes = bytes) (hzs : z.cells.size = 1)
    (v : Value) (k : Nat) (xs : List Value) (hs : a.eval s = v) (hown : w.ownsRow B e 1 v k xs)
    (A : Option Addr) (m c : Nat) (us : List Value) (hx : a.eval x = .slice A m c) (hm : m = us.length) (hA : A = none → us = [] ∧ c = 0) (hc : ∀ ad, A = some ad → ∀ j u, us[j]? = some u → w.cell? (ad.add j) = some u) (h1 : ∀ u ∈ us, u.oneCell' = true)
    (h63 : k + m ≤ maxLen) (hbytes : (k + m) * bytes ≤ 140737488355328) (hB : B ≤ w.heap.size)
    (h : ∀ v' w', w'.ownsRow B e 1 v' (k + m) (xs ++ us) → w.grownBy w' v.ownBlock → wpList P ops Q rest (a.put o.dst v') w') : wpList P ops Q (o :: rest) a w := by
  refine wpList_plain hgd fun K hK => ?_
  rcases A with _ | ad
  · obtain ⟨rfl, rfl⟩ := hA rfl
    subst hm
    have hrun := run_append_owned_none (P := P) w B t o.type e i 1 ht hi v k xs hown
    unfold Oper.wp
    simp [execOp, ho, resolve, invoke, builtin, hs, hx, hrun, Result.andThen]
    exact hK _ _ (h v w (by simpa using hown) (World.grownBy.refl w _))
  · obtain ⟨v', w', hrun, h2, h3, _⟩ := run_append_own (P := P) w B t o.type e i z 1 bytes ht hi hz hsize hby hzs (by decide) v k xs hown ad m c us (by omega) (hc ad rfl) h1 h63 hbytes hB
    unfold Oper.wp
    simp [execOp, ho, resolve, invoke, builtin, hs, hx, hrun, Result.andThen]
    exact hK _ _ (h v' w' h2 h3)
/-- append(out, xs...) as one step of a region that draws. -/
theorem step_app {ops : Array Oper} {o : Oper} {a : Act} {K : Act → World → Prop} {Q : Exit → Act → World → Prop} {E : Prop} (hgd : o.guard = none) (s x : Operand) (t : TypeId)
    (ho : o.op = .call { callee := .builtin .append, args := #[s, x], argTypes := #[t, t] })
    (B : Nat) (e : TypeId) (i : TypeInfo) (z : Value) (k : IntKind) (bytes : Nat) (ht : P.underlying t = some (.slice e)) (hi : P.info? e = some i) (hz : i.zero = some z)
    (hsize : i.size = 1) (hby : i.bytes = bytes) (hzs : z.cells.size = 1)
    (v : Value) (xs : List Int) (hs : a.eval s = v) (hown : w.ownsRow B e 1 v xs.length (xs.map (Value.int k)))
    (B' : Nat) (A : Option Addr) (m c : Nat) (ys : List Int) (hx : a.eval x = .slice A m c) (hm : m = ys.length) (hA : A = none → c = 0) (hr : Rd w B' k A ys)
    (hbytes : (xs.length + ys.length) * bytes ≤ 140737488355328) (h63 : xs.length + ys.length ≤ maxLen) (hB : B ≤ w.heap.size)
    (h : ∀ v' w', w'.ownsRow B e 1 v' (xs ++ ys).length ((xs ++ ys).map (Value.int k)) → w.grownBy w' v.ownBlock → K (a.put o.dst v') w') : if Region.wanted o (yielded ops a.tmps) = true then Oper.wp P o a w K Q else E := by
  rw [if_pos (by simp [Region.wanted, hgd])]
  obtain ⟨v', w', hrun, h2, h3⟩ := run_app_own (P := P) w B t o.type e i z k bytes ht hi hz hsize hby hzs v xs hown B' A m c ys hm hA hr hbytes h63 hB
  unfold Oper.wp
  simp [execOp, ho, resolve, invoke, builtin, hs, hx, hrun, Result.andThen]
  exact h v' w' h2 h3
end
end Wd
end Go.Proofs.YtnhgijlhnamolaaGreatDoor
