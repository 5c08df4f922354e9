/- few; the walk of the statement BitsetTells of layer 9. -/
import Derived.Test.YtgmjafammdkgfaaDoorBsIfc
import Derived.Test.YtgmjafammdkgfaaDoorBsLen
namespace Go.Proofs.YtgmjafammdkgfaaDoor
set_option maxRecDepth 20000
open Go.RowKit
namespace Bi
open Bs Bx
def fewB (l : List Int) : Bool := decide (l.length ≤ 60) && l.all fun x => !(decide (2000 ≤ x) && decide (x < 65530))
theorem few_len {l : List Int} (h : fewB l = true) : l.length ≤ 60 := by
  unfold fewB at h
  rw [Bool.and_eq_true] at h
  exact of_decide_eq_true h.1
set_option maxHeartbeats 1000000 in
theorem few_any (A : Option Addr) (n c : Nat) (l : List Int) (w : World) (hS : Wd.Sl w .i64 A n c l) :
    Calls Tryd.prog 8 #[.slice A n c] w fun e w' => e = .returned (.bool (fewB l)) ∧ w' = w := by
  have Hm := Lib.hid hS.len
  have Hr := Lib.hid hS.rd
  have hcap := hS.cap
  have hmx := hS.max
  unfold maxLen at hmx
  obtain ⟨r, hr⟩ : ∃ r, r = fewB l := ⟨_, rfl⟩
  rw [← hr]
  have HR := Lib.hid hr
  clear hr hS
  by_cases h60 : n ≤ 60
  case neg =>
    have e := Lib.hid (show r = false by rw [HR.out]; unfold fewB; rw [decide_eq_false (by rw [← Hm.out]; exact h60)]; rfl)
    have h6 : (60 : Int) < (n : Int) := by omega
    clear h60
    go_enter Tryd.func8, Tryd.ntmps8
    go_wp2
    go_ret
    exact ⟨by rw [e.out]; rfl, rfl⟩
  have h6 : (n : Int) ≤ 60 := by omega
  have H60 := Lib.hid h60
  clear h60
  go_enter Tryd.func8, Tryd.ntmps8
  go_wp2
  go_loopw [3] (fun j wr => ∃ k : Nat, j = .int .i64 k ∧ k ≤ n ∧ wr = w ∧ Hid ((l.take k).all (fun x => !(decide (2000 ≤ x) && decide (x < 65530))) = true)) (fun j _ => n - (intOf j).toNat)
  case atStart => exact ⟨0, rfl, Nat.zero_le _, rfl, Lib.hid (by simp)⟩
  case round =>
    obtain ⟨k, rfl, hk, rfl, hf⟩ := hrel
    by_cases hlt : k < n
    · have hkl : k < l.length := by rw [← Hm.out]; exact hlt
      obtain ⟨b, o, hA, hb, hc⟩ := Hr.out k hkl
      subst hA
      have hn := take_next hkl
      obtain ⟨x, hx⟩ : ∃ x, x = l.getD k 0 := ⟨_, rfl⟩
      rw [← hx] at hc hn
      have Hx := Lib.hid (show x ∈ l by rw [hx, List.getD_eq_getElem?_getD, List.getElem?_eq_getElem hkl]; exact List.getElem_mem hkl)
      have Hn := Lib.hid hn
      have hkI : (k : Int) < n := by omega
      clear hx hn hkl
      by_cases h1 : 2000 ≤ x
      · by_cases h2 : x < 65530
        · have e := Lib.hid (show r = false by
            rw [HR.out]
            unfold fewB
            have : l.all (fun x => !(decide (2000 ≤ x) && decide (x < 65530))) = false := by
              rw [List.all_eq_false]
              exact ⟨x, Hx.out, by simp [h1, h2]⟩
            rw [this, Bool.and_false])
          go_wp2
          go_ret
          exact ⟨by rw [e.out]; rfl, rfl⟩
        · have hf2 := Lib.hid (show (l.take (k + 1)).all (fun x => !(decide (2000 ≤ x) && decide (x < 65530))) = true by rw [Hn.out, List.all_append, hf.out]; simp [h2])
          go_wp2
          go_roundw
          case rel => exact ⟨k + 1, by go_num, by omega, trivial, hf2⟩
          case measure => simp [intOf]; omega
      · have hf2 := Lib.hid (show (l.take (k + 1)).all (fun x => !(decide (2000 ≤ x) && decide (x < 65530))) = true by rw [Hn.out, List.all_append, hf.out]; simp [h1])
        go_wp2
        go_roundw
        case rel => exact ⟨k + 1, by go_num, by omega, trivial, hf2⟩
        case measure => simp [intOf]; omega
    · have hkI : ¬ (k : Int) < n := by omega
      have e := Lib.hid (show r = true by rw [HR.out]; unfold fewB; have := hf.out; rw [List.take_of_length_le (by rw [← Hm.out]; omega)] at this; rw [this, decide_eq_true (by rw [← Hm.out]; exact H60.out)]; rfl)
      clear hf
      go_wp2
      go_ret
      exact ⟨by rw [e.out]; rfl, rfl⟩
end Bi
namespace Lw
open Bi Bs Bx
variable {S : World → Option Addr → Nat → Nat → List Int → Prop}
set_option maxRecDepth 100000 in
set_option maxHeartbeats 16000000 in
theorem bitsetTells_walk (I : Ifc S) (Aa : Option Addr) (na ca : Nat) (la : List Int) (Ab : Option Addr) (nb cb : Nat) (lb : List Int) (i n most : Int) (w : World) (hSa : Wd.Sl w .i64 Aa na ca la) (_fa : Wd.Fits .i64 la) (hSb : Wd.Sl w .i64 Ab nb cb lb) (_fb : Wd.Fits .i64 lb)
    (i0 : -9223372036854775808 ≤ i) (i1 : i ≤ 9223372036854775807) (n0 : -9223372036854775808 ≤ n) (n1 : n ≤ 9223372036854775807) (m0 : -9223372036854775808 ≤ most) (m1 : most ≤ 9223372036854775807) (hTab : Tab w) :
    Calls Tryd.prog 3 #[.slice Aa na ca, .slice Ab nb cb, .int .i64 i, .int .i64 n, .int .i64 most] w fun e w' => e = .returned (.bool true) ∧ Below w.heap.size w w' := by
  have Ca := Lib.hid (awake_any I w hTab)
  have Ha := Lib.hid hSa
  have Hb := Lib.hid hSb
  have Fa := Lib.hid fun w' (hb : Below w.heap.size w w') => few_any Aa na ca la w' (hSa.below hb)
  have Fb := Lib.hid fun w' (hb : Below w.heap.size w w') => few_any Ab nb cb lb w' (hSb.below hb)
  obtain ⟨fa, hfa⟩ : ∃ f, f = fewB la := ⟨_, rfl⟩
  obtain ⟨fb, hfb⟩ : ∃ f, f = fewB lb := ⟨_, rfl⟩
  rw [← hfa] at Fa
  rw [← hfb] at Fb
  have Hfa := Lib.hid hfa
  have Hfb := Lib.hid hfb
  have Ii := Lib.hid (show I64 i from ⟨i0, i1⟩)
  have In := Lib.hid (show I64 n from ⟨n0, n1⟩)
  have Im := Lib.hid (show I64 most from ⟨m0, m1⟩)
  have Htab0 := Lib.hid hTab
  clear hSa hSb hfa hfb hTab
  go_enter Tryd.func3, Tryd.ntmps3
  go_wp2_with fail
  refine (Ca.out).mono ?_
  rintro e w1 ⟨rfl, hb1⟩
  go_wp2_with fail
  refine (Fa.out w1 hb1).mono ?_
  rintro e w1' ⟨rfl, hq⟩
  have hq' := hq.symm
  clear hq
  subst hq'
  go_wp2_with fail
  refine (Fb.out w1 hb1).mono ?_
  rintro e w1' ⟨rfl, hq⟩
  have hq' := hq.symm
  clear hq
  subst hq'
  cases fa with
  | false =>
    go_wp2_with fail
    go_ret
    exact ⟨rfl, hb1⟩
  | true =>
  cases fb with
  | false =>
    go_wp2_with fail
    go_ret
    exact ⟨rfl, hb1⟩
  | true =>
  by_cases hn3 : 3000 < n
  · go_wp2_with fail
    go_ret
    exact ⟨rfl, hb1⟩
  by_cases hm0 : most < 0
  · go_wp2_with fail
    go_ret
    exact ⟨rfl, hb1⟩
  have hla := few_len Hfa.out.symm
  have hlb := few_len Hfb.out.symm
  have na60 : na ≤ 60 := by rw [Ha.out.len]; exact hla
  have nb60 : nb ≤ 60 := by rw [Hb.out.len]; exact hlb
  have hX60 := Nat.le_trans (of_len la) hla
  have hY60 := Nat.le_trans (of_len lb) hlb
  have Ka := Lib.hid (I.of_ Aa na ca la w1 (Ha.out.below hb1) (by omega))
  have Kb := Lib.hid fun w' (hb : Below w.heap.size w w') => I.of_ Ab nb cb lb w' (Hb.out.below hb) (by omega)
  have Kx := Lib.hid fun w' (hb : Below w.heap.size w w') => refOf_any Aa na ca la w' (Ha.out.below hb) (by omega)
  have Ky := Lib.hid fun w' (hb : Below w.heap.size w w') => refOf_any Ab nb cb lb w' (Hb.out.below hb) (by omega)
  generalize ofL la = X at *
  generalize ofL lb = Y at *
  have HX60 := Lib.hid hX60
  have HY60 := Lib.hid hY60
  clear hla hlb na60 nb60 hX60 hY60
  go_wp2_with fail
  refine Ka.out.mono ?_
  rintro e w2 ⟨A, sn, sc, rfl, hS2, hB2⟩
  have hb2 := hb1.trans (hB2.mono hb1.size)
  have hx2 := (Below.refl w2.heap.size w2).alloc (Nat.le_refl _) (.cells #[.slice A sn sc] 27)
  have hS3 := I.below hS2 hx2
  have cs := box1 w2 A sn sc
  have hb3 := hb2.trans (hx2.mono hb2.size)
  have hls : w2.heap.size < (w2.alloc (.cells #[.slice A sn sc] 27)).heap.size := by simp
  clear hB2 hS2 hb2 hx2 hb1 Ka
  go_wp2_with fail
  generalize w2.alloc (.cells #[.slice A sn sc] 27) = w3 at *
  generalize w2.heap.size = Bs at *
  refine (Kb.out w3 hb3).mono ?_
  rintro e w4 ⟨B, tn, tc, rfl, hT4, hB4⟩
  have hb4 := hb3.trans (hB4.mono hb3.size)
  have hS4 := I.below hS3 hB4
  have cs4 := (hB4.cell (p := ⟨Bs, 0, none⟩) hls).trans cs
  have hls4 := Nat.lt_of_lt_of_le hls hB4.size
  have hx5 := (Below.refl w4.heap.size w4).alloc (Nat.le_refl _) (.cells #[.slice B tn tc] 27)
  have hT5 := I.below hT4 hx5
  have hS5 := I.below hS4 hx5
  have ct := box1 w4 B tn tc
  have cs5 := (hx5.cell (p := ⟨Bs, 0, none⟩) hls4).trans cs4
  have hls5 := Nat.lt_of_lt_of_le hls4 hx5.size
  have hlt5 : w4.heap.size < (w4.alloc (.cells #[.slice B tn tc] 27)).heap.size := by simp
  have hb5 := hb4.trans (hx5.mono hb4.size)
  clear hB4 hS3 cs hls hS4 cs4 hls4 hx5 hT4 hb4 hb3 Kb
  go_wp2_with fail
  generalize w4.alloc (.cells #[.slice B tn tc] 27) = w5 at *
  generalize w4.heap.size = Bt at *
  refine (Kx.out w5 hb5).mono ?_
  rintro e w6 ⟨D, xn, xc, rfl, hx6, hB6⟩
  have hb6 := hb5.trans (hB6.mono hb5.size)
  clear Kx
  go_wp2_with fail
  refine (Ky.out w6 hb6).mono ?_
  rintro e wb ⟨E, yn, yc, rfl, hy7, hB7⟩
  have hb7 := hb6.trans (hB7.mono hb6.size)
  have h57 := hB6.trans (hB7.mono hB6.size)
  have HS := Lib.hid (I.below hS5 h57)
  have HT := Lib.hid (I.below hT5 h57)
  have Hx := Lib.hid (hx6.below hB7)
  have Hy := Lib.hid hy7
  have Hcs := Lib.hid ((h57.cell (p := ⟨Bs, 0, none⟩) hls5).trans cs5)
  have Hct := Lib.hid ((h57.cell (p := ⟨Bt, 0, none⟩) hlt5).trans ct)
  have Hls := Lib.hid (Nat.lt_of_lt_of_le hls5 h57.size)
  have Hlt := Lib.hid (Nat.lt_of_lt_of_le hlt5 h57.size)
  have Hb7 := Lib.hid hb7
  have Htab := Lib.hid (Htab0.out.below hb7)
  clear Ky hB6 hB7 hb6 hb5 h57 hS5 hT5 hx6 hy7 cs5 ct hls5 hlt5 hb7 Ha Hb Hfa Hfb Ca Fa Fb
  have xn60 : xn ≤ 60 := by rw [Hx.out.len]; exact HX60.out
  have yn60 : yn ≤ 60 := by rw [Hy.out.len]; exact HY60.out
  have H60 := Lib.hid (And.intro xn60 yn60)
  have xmx := Hx.out.cap
  have xmm := Hx.out.max
  unfold maxLen at xmm
  clear yn60
  have hb := Below.refl wb.heap.size wb
  have cs := Hcs.out
  have ct := Hct.out
  go_wp2_with fail
  refine (I.list_ (I.below HS.out hb) (Htab.out.below hb) (-1) ⟨by omega, by omega⟩).mono ?_
  rintro e v1 ⟨O1, on1, oc1, rfl, hO1, hV1⟩
  clear cs ct
  replace hb := hb.trans (hV1.mono hb.size)
  have cs := (hb.cell (p := ⟨Bs, 0, none⟩) Hls.out).trans Hcs.out
  have ct := (hb.cell (p := ⟨Bt, 0, none⟩) Hlt.out).trans Hct.out
  rw [hd_all] at hO1
  clear hV1
  go_wp2_with fail
  refine (Nc.ints_yes O1 D on1 xn oc1 xc _ _ _ hO1 (Hx.out.below hb) rfl).mono ?_
  rintro e v2 ⟨rfl, hV2⟩
  clear cs ct
  replace hb := hb.trans (hV2.mono hb.size)
  have cs := (hb.cell (p := ⟨Bs, 0, none⟩) Hls.out).trans Hcs.out
  have ct := (hb.cell (p := ⟨Bt, 0, none⟩) Hlt.out).trans Hct.out
  clear hV2 hO1
  go_wp2_with fail
  refine (I.with_ (I.below HS.out hb) i Ii.out).mono ?_
  rintro e v3 ⟨U3, un3, uc3, rfl, hU3, hV3⟩
  clear cs ct
  replace hb := hb.trans (hV3.mono hb.size)
  have cs := (hb.cell (p := ⟨Bs, 0, none⟩) Hls.out).trans Hcs.out
  have ct := (hb.cell (p := ⟨Bt, 0, none⟩) Hlt.out).trans Hct.out
  clear hV3
  go_wp2_with fail
  refine (I.list_ hU3 (Htab.out.below hb) (-1) ⟨by omega, by omega⟩).mono ?_
  rintro e v4 ⟨O4, on4, oc4, rfl, hO4, hV4⟩
  clear cs ct
  replace hb := hb.trans (hV4.mono hb.size)
  have cs := (hb.cell (p := ⟨Bs, 0, none⟩) Hls.out).trans Hcs.out
  have ct := (hb.cell (p := ⟨Bt, 0, none⟩) Hlt.out).trans Hct.out
  rw [hd_all] at hO4
  clear hV4 hU3
  go_wp2_with fail
  refine (refWith_any D xn xc X i _ (Hx.out.below hb) (by have := H60.out.1; omega)).mono ?_
  rintro e v5 ⟨O5, on5, oc5, rfl, hO5, hV5⟩
  clear cs ct
  replace hb := hb.trans (hV5.mono hb.size)
  have cs := (hb.cell (p := ⟨Bs, 0, none⟩) Hls.out).trans Hcs.out
  have ct := (hb.cell (p := ⟨Bt, 0, none⟩) Hlt.out).trans Hct.out
  replace hO4 := hO4.below hV5
  clear hV5
  go_wp2_with fail
  refine (Nc.ints_yes O4 O5 on4 on5 oc4 oc5 _ _ _ hO4 (hO5) rfl).mono ?_
  rintro e v6 ⟨rfl, hV6⟩
  clear cs ct
  replace hb := hb.trans (hV6.mono hb.size)
  have cs := (hb.cell (p := ⟨Bs, 0, none⟩) Hls.out).trans Hcs.out
  have ct := (hb.cell (p := ⟨Bt, 0, none⟩) Hlt.out).trans Hct.out
  clear hV6 hO4
  clear hO5
  go_wp2_with fail
  refine (I.without_ (I.below HS.out hb) i Ii.out).mono ?_
  rintro e v7 ⟨U7, un7, uc7, rfl, hU7, hV7⟩
  clear cs ct
  replace hb := hb.trans (hV7.mono hb.size)
  have cs := (hb.cell (p := ⟨Bs, 0, none⟩) Hls.out).trans Hcs.out
  have ct := (hb.cell (p := ⟨Bt, 0, none⟩) Hlt.out).trans Hct.out
  clear hV7
  go_wp2_with fail
  refine (I.list_ hU7 (Htab.out.below hb) (-1) ⟨by omega, by omega⟩).mono ?_
  rintro e v8 ⟨O8, on8, oc8, rfl, hO8, hV8⟩
  clear cs ct
  replace hb := hb.trans (hV8.mono hb.size)
  have cs := (hb.cell (p := ⟨Bs, 0, none⟩) Hls.out).trans Hcs.out
  have ct := (hb.cell (p := ⟨Bt, 0, none⟩) Hlt.out).trans Hct.out
  rw [hd_all] at hO8
  clear hV8 hU7
  go_wp2_with fail
  refine (refWithout_any D xn xc X i _ (Hx.out.below hb) (by have := H60.out.1; omega)).mono ?_
  rintro e v9 ⟨O9, on9, oc9, rfl, hO9, hV9⟩
  clear cs ct
  replace hb := hb.trans (hV9.mono hb.size)
  have cs := (hb.cell (p := ⟨Bs, 0, none⟩) Hls.out).trans Hcs.out
  have ct := (hb.cell (p := ⟨Bt, 0, none⟩) Hlt.out).trans Hct.out
  replace hO8 := hO8.below hV9
  clear hV9
  go_wp2_with fail
  refine (Nc.ints_yes O8 O9 on8 on9 oc8 oc9 _ _ _ hO8 (hO9) rfl).mono ?_
  rintro e v10 ⟨rfl, hV10⟩
  clear cs ct
  replace hb := hb.trans (hV10.mono hb.size)
  have cs := (hb.cell (p := ⟨Bs, 0, none⟩) Hls.out).trans Hcs.out
  have ct := (hb.cell (p := ⟨Bt, 0, none⟩) Hlt.out).trans Hct.out
  clear hV10 hO8
  clear hO9
  go_wp2_with fail
  refine (I.and_ (I.below HS.out hb) (I.below HT.out hb)).mono ?_
  rintro e v11 ⟨U11, un11, uc11, rfl, hU11, hV11⟩
  clear cs ct
  replace hb := hb.trans (hV11.mono hb.size)
  have cs := (hb.cell (p := ⟨Bs, 0, none⟩) Hls.out).trans Hcs.out
  have ct := (hb.cell (p := ⟨Bt, 0, none⟩) Hlt.out).trans Hct.out
  clear hV11
  go_wp2_with fail
  refine (I.list_ hU11 (Htab.out.below hb) (-1) ⟨by omega, by omega⟩).mono ?_
  rintro e v12 ⟨O12, on12, oc12, rfl, hO12, hV12⟩
  clear cs ct
  replace hb := hb.trans (hV12.mono hb.size)
  have cs := (hb.cell (p := ⟨Bs, 0, none⟩) Hls.out).trans Hcs.out
  have ct := (hb.cell (p := ⟨Bt, 0, none⟩) Hlt.out).trans Hct.out
  rw [hd_all] at hO12
  clear hV12 hU11
  go_wp2_with fail
  refine (refAnd_any D E xn xc yn yc X Y _ (Hx.out.below hb) (Hy.out.below hb) (by have := H60.out.1; omega)).mono ?_
  rintro e v13 ⟨O13, on13, oc13, rfl, hO13, hV13⟩
  clear cs ct
  replace hb := hb.trans (hV13.mono hb.size)
  have cs := (hb.cell (p := ⟨Bs, 0, none⟩) Hls.out).trans Hcs.out
  have ct := (hb.cell (p := ⟨Bt, 0, none⟩) Hlt.out).trans Hct.out
  replace hO12 := hO12.below hV13
  clear hV13
  go_wp2_with fail
  refine (Nc.ints_yes O12 O13 on12 on13 oc12 oc13 _ _ _ hO12 (hO13) rfl).mono ?_
  rintro e v14 ⟨rfl, hV14⟩
  clear cs ct
  replace hb := hb.trans (hV14.mono hb.size)
  have cs := (hb.cell (p := ⟨Bs, 0, none⟩) Hls.out).trans Hcs.out
  have ct := (hb.cell (p := ⟨Bt, 0, none⟩) Hlt.out).trans Hct.out
  clear hV14 hO12
  clear hO13
  go_wp2_with fail
  refine (I.or_ (I.below HS.out hb) (I.below HT.out hb)).mono ?_
  rintro e v15 ⟨U15, un15, uc15, rfl, hU15, hV15⟩
  clear cs ct
  replace hb := hb.trans (hV15.mono hb.size)
  have cs := (hb.cell (p := ⟨Bs, 0, none⟩) Hls.out).trans Hcs.out
  have ct := (hb.cell (p := ⟨Bt, 0, none⟩) Hlt.out).trans Hct.out
  clear hV15
  go_wp2_with fail
  refine (I.list_ hU15 (Htab.out.below hb) (-1) ⟨by omega, by omega⟩).mono ?_
  rintro e v16 ⟨O16, on16, oc16, rfl, hO16, hV16⟩
  clear cs ct
  replace hb := hb.trans (hV16.mono hb.size)
  have cs := (hb.cell (p := ⟨Bs, 0, none⟩) Hls.out).trans Hcs.out
  have ct := (hb.cell (p := ⟨Bt, 0, none⟩) Hlt.out).trans Hct.out
  rw [hd_all] at hO16
  clear hV16 hU15
  go_wp2_with fail
  refine (refOr_any D E xn xc yn yc X Y _ (Hx.out.below hb) (Hy.out.below hb) (by have := H60.out.1; omega) (by have := H60.out.2; omega)).mono ?_
  rintro e v17 ⟨O17, on17, oc17, rfl, hO17, hV17⟩
  clear cs ct
  replace hb := hb.trans (hV17.mono hb.size)
  have cs := (hb.cell (p := ⟨Bs, 0, none⟩) Hls.out).trans Hcs.out
  have ct := (hb.cell (p := ⟨Bt, 0, none⟩) Hlt.out).trans Hct.out
  replace hO16 := hO16.below hV17
  clear hV17
  go_wp2_with fail
  refine (Nc.ints_yes O16 O17 on16 on17 oc16 oc17 _ _ _ hO16 (hO17) rfl).mono ?_
  rintro e v18 ⟨rfl, hV18⟩
  clear cs ct
  replace hb := hb.trans (hV18.mono hb.size)
  have cs := (hb.cell (p := ⟨Bs, 0, none⟩) Hls.out).trans Hcs.out
  have ct := (hb.cell (p := ⟨Bt, 0, none⟩) Hlt.out).trans Hct.out
  clear hV18 hO16
  clear hO17
  go_wp2_with fail
  refine (I.not_ (I.below HS.out hb) n In.out).mono ?_
  rintro e v19 ⟨U19, un19, uc19, rfl, hU19, hV19⟩
  clear cs ct
  replace hb := hb.trans (hV19.mono hb.size)
  have cs := (hb.cell (p := ⟨Bs, 0, none⟩) Hls.out).trans Hcs.out
  have ct := (hb.cell (p := ⟨Bt, 0, none⟩) Hlt.out).trans Hct.out
  clear hV19
  go_wp2_with fail
  refine (I.list_ hU19 (Htab.out.below hb) (-1) ⟨by omega, by omega⟩).mono ?_
  rintro e v20 ⟨O20, on20, oc20, rfl, hO20, hV20⟩
  clear cs ct
  replace hb := hb.trans (hV20.mono hb.size)
  have cs := (hb.cell (p := ⟨Bs, 0, none⟩) Hls.out).trans Hcs.out
  have ct := (hb.cell (p := ⟨Bt, 0, none⟩) Hlt.out).trans Hct.out
  rw [hd_all] at hO20
  clear hV20 hU19
  go_wp2_with fail
  refine (refNot_any D xn xc X n _ (Hx.out.below hb)).mono ?_
  rintro e v21 ⟨O21, on21, oc21, rfl, hO21, hV21⟩
  clear cs ct
  replace hb := hb.trans (hV21.mono hb.size)
  have cs := (hb.cell (p := ⟨Bs, 0, none⟩) Hls.out).trans Hcs.out
  have ct := (hb.cell (p := ⟨Bt, 0, none⟩) Hlt.out).trans Hct.out
  replace hO20 := hO20.below hV21
  clear hV21
  go_wp2_with fail
  refine (Nc.ints_yes O20 O21 on20 on21 oc20 oc21 _ _ _ hO20 (hO21) rfl).mono ?_
  rintro e v22 ⟨rfl, hV22⟩
  clear cs ct
  replace hb := hb.trans (hV22.mono hb.size)
  have cs := (hb.cell (p := ⟨Bs, 0, none⟩) Hls.out).trans Hcs.out
  have ct := (hb.cell (p := ⟨Bt, 0, none⟩) Hlt.out).trans Hct.out
  clear hV22 hO20
  clear hO21
  go_wp2_with fail
  refine (I.upto_ n _ In.out).mono ?_
  rintro e v23 ⟨U23, un23, uc23, rfl, hU23, hV23⟩
  clear cs ct
  replace hb := hb.trans (hV23.mono hb.size)
  have cs := (hb.cell (p := ⟨Bs, 0, none⟩) Hls.out).trans Hcs.out
  have ct := (hb.cell (p := ⟨Bt, 0, none⟩) Hlt.out).trans Hct.out
  clear hV23
  go_wp2_with fail
  refine (I.list_ hU23 (Htab.out.below hb) (-1) ⟨by omega, by omega⟩).mono ?_
  rintro e v24 ⟨O24, on24, oc24, rfl, hO24, hV24⟩
  clear cs ct
  replace hb := hb.trans (hV24.mono hb.size)
  have cs := (hb.cell (p := ⟨Bs, 0, none⟩) Hls.out).trans Hcs.out
  have ct := (hb.cell (p := ⟨Bt, 0, none⟩) Hlt.out).trans Hct.out
  rw [hd_all] at hO24
  clear hV24 hU23
  go_wp2_with fail
  refine (refUpto_any n _).mono ?_
  rintro e v25 ⟨O25, on25, oc25, rfl, hO25, hV25⟩
  clear cs ct
  replace hb := hb.trans (hV25.mono hb.size)
  have cs := (hb.cell (p := ⟨Bs, 0, none⟩) Hls.out).trans Hcs.out
  have ct := (hb.cell (p := ⟨Bt, 0, none⟩) Hlt.out).trans Hct.out
  replace hO24 := hO24.below hV25
  clear hV25
  go_wp2_with fail
  refine (Nc.ints_yes O24 O25 on24 on25 oc24 oc25 _ _ _ hO24 (hO25) rfl).mono ?_
  rintro e v26 ⟨rfl, hV26⟩
  clear cs ct
  replace hb := hb.trans (hV26.mono hb.size)
  have cs := (hb.cell (p := ⟨Bs, 0, none⟩) Hls.out).trans Hcs.out
  have ct := (hb.cell (p := ⟨Bt, 0, none⟩) Hlt.out).trans Hct.out
  clear hV26 hO24
  clear hO25
  have Cint := fun w' (hb : Below wb.heap.size wb w') => ((Nc.ints_any D E xn yn xc yc X Y w' (Hx.out.below hb) (Hy.out.below hb)).mono fun _ _ ⟨he, q, hq⟩ => ⟨he, by rw [hq]; exact Wd.below_drewN (Below.refl _ _) q⟩ : Calls Tryd.prog 11 #[.slice D xn xc, .slice E yn yc] w' fun e w'' => e = .returned (.bool (decide (X = Y))) ∧ Below w'.heap.size w' w'')
  have Csame := fun w' (hb : Below wb.heap.size wb w') => I.same_ (I.below HS.out hb) (I.below HT.out hb)
  generalize decide (X = Y) = sm at Cint Csame
  have Chas := fun w' (hb : Below wb.heap.size wb w') => I.has_ (I.below HS.out hb) i Ii.out
  have Crhas := fun w' (hb : Below wb.heap.size wb w') => refHas_any D xn xc X i w' (Hx.out.below hb)
  generalize decide (i ∈ X) = hi at Chas Crhas
  have Ccnt := fun w' (hb : Below wb.heap.size wb w') => I.count_ (I.below HS.out hb)
  rw [← Hx.out.len] at Ccnt
  have Cint := Lib.hid Cint
  have Csame := Lib.hid Csame
  have Chas := Lib.hid Chas
  have Crhas := Lib.hid Crhas
  have Ccnt := Lib.hid Ccnt
  obtain ⟨q, rfl⟩ : ∃ q : Nat, most = (q : Int) := ⟨most.toNat, by omega⟩
  have Hhd := Lib.hid (show hd (q : Int) X = X.take q by unfold hd; rw [if_neg (by omega)]; rfl)
  by_cases hq : q < xn
  · have hqI : (q : Int) < (xn : Int) := by omega
    have hq0 : q ≤ xn := by omega
    have hqc : q ≤ xc := by omega
    go_wp2_with fail
    refine (I.list_ (I.below HS.out hb) (Htab.out.below hb) (q : Int) Im.out).mono ?_
    rintro e v27 ⟨O27, on27, oc27, rfl, hO27, hV27⟩
    clear cs ct
    replace hb := hb.trans (hV27.mono hb.size)
    have cs := (hb.cell (p := ⟨Bs, 0, none⟩) Hls.out).trans Hcs.out
    have ct := (hb.cell (p := ⟨Bt, 0, none⟩) Hlt.out).trans Hct.out
    clear hV27
    go_wp2_with fail
    refine (Nc.ints_yes O27 D on27 q oc27 xc _ _ _ hO27 (by rw [Hhd.out]; exact ((Hx.out.below hb).head q hq0)) rfl).mono ?_
    rintro e v28 ⟨rfl, hV28⟩
    clear cs ct
    replace hb := hb.trans (hV28.mono hb.size)
    have cs := (hb.cell (p := ⟨Bs, 0, none⟩) Hls.out).trans Hcs.out
    have ct := (hb.cell (p := ⟨Bt, 0, none⟩) Hlt.out).trans Hct.out
    clear hV28 hO27
    go_wp2_with fail
    refine (Cint.out _ hb).mono ?_
    rintro e v29 ⟨rfl, hV29⟩
    clear cs ct
    replace hb := hb.trans (hV29.mono hb.size)
    have cs := (hb.cell (p := ⟨Bs, 0, none⟩) Hls.out).trans Hcs.out
    have ct := (hb.cell (p := ⟨Bt, 0, none⟩) Hlt.out).trans Hct.out
    clear hV29
    go_wp2_with fail
    refine (Ccnt.out _ hb).mono ?_
    rintro e v30 ⟨rfl, hV30⟩
    clear cs ct
    replace hb := hb.trans (hV30.mono hb.size)
    have cs := (hb.cell (p := ⟨Bs, 0, none⟩) Hls.out).trans Hcs.out
    have ct := (hb.cell (p := ⟨Bt, 0, none⟩) Hlt.out).trans Hct.out
    clear hV30
    go_wp2_with fail
    refine (Chas.out _ hb).mono ?_
    rintro e v31 ⟨rfl, hV31⟩
    clear cs ct
    replace hb := hb.trans (hV31.mono hb.size)
    have cs := (hb.cell (p := ⟨Bs, 0, none⟩) Hls.out).trans Hcs.out
    have ct := (hb.cell (p := ⟨Bt, 0, none⟩) Hlt.out).trans Hct.out
    clear hV31
    go_wp2_with fail
    refine (Crhas.out _ hb).mono ?_
    rintro e v60 ⟨rfl, hq60⟩
    have hq60' := hq60.symm
    clear hq60
    subst hq60'
    go_wp2_with fail
    refine (Csame.out _ hb).mono ?_
    rintro e v32 ⟨rfl, hV32⟩
    clear cs ct
    replace hb := hb.trans (hV32.mono hb.size)
    have cs := (hb.cell (p := ⟨Bs, 0, none⟩) Hls.out).trans Hcs.out
    have ct := (hb.cell (p := ⟨Bt, 0, none⟩) Hlt.out).trans Hct.out
    clear hV32
    go_wp2_with fail
    go_ret
    exact ⟨rfl, Hb7.out.trans (hb.mono Hb7.out.size)⟩
  · have hqI : ¬ (q : Int) < (xn : Int) := by omega
    have Hall := Lib.hid (show hd (q : Int) X = X by rw [Hhd.out]; exact List.take_of_length_le (by rw [← Hx.out.len]; omega))
    go_wp2_with fail
    refine (I.list_ (I.below HS.out hb) (Htab.out.below hb) (q : Int) Im.out).mono ?_
    rintro e v33 ⟨O33, on33, oc33, rfl, hO33, hV33⟩
    clear cs ct
    replace hb := hb.trans (hV33.mono hb.size)
    have cs := (hb.cell (p := ⟨Bs, 0, none⟩) Hls.out).trans Hcs.out
    have ct := (hb.cell (p := ⟨Bt, 0, none⟩) Hlt.out).trans Hct.out
    clear hV33
    go_wp2_with fail
    refine (Nc.ints_yes O33 D on33 xn oc33 xc _ _ _ hO33 (by rw [Hall.out]; exact Hx.out.below hb) rfl).mono ?_
    rintro e v34 ⟨rfl, hV34⟩
    clear cs ct
    replace hb := hb.trans (hV34.mono hb.size)
    have cs := (hb.cell (p := ⟨Bs, 0, none⟩) Hls.out).trans Hcs.out
    have ct := (hb.cell (p := ⟨Bt, 0, none⟩) Hlt.out).trans Hct.out
    clear hV34 hO33
    go_wp2_with fail
    refine (Cint.out _ hb).mono ?_
    rintro e v35 ⟨rfl, hV35⟩
    clear cs ct
    replace hb := hb.trans (hV35.mono hb.size)
    have cs := (hb.cell (p := ⟨Bs, 0, none⟩) Hls.out).trans Hcs.out
    have ct := (hb.cell (p := ⟨Bt, 0, none⟩) Hlt.out).trans Hct.out
    clear hV35
    go_wp2_with fail
    refine (Ccnt.out _ hb).mono ?_
    rintro e v36 ⟨rfl, hV36⟩
    clear cs ct
    replace hb := hb.trans (hV36.mono hb.size)
    have cs := (hb.cell (p := ⟨Bs, 0, none⟩) Hls.out).trans Hcs.out
    have ct := (hb.cell (p := ⟨Bt, 0, none⟩) Hlt.out).trans Hct.out
    clear hV36
    go_wp2_with fail
    refine (Chas.out _ hb).mono ?_
    rintro e v37 ⟨rfl, hV37⟩
    clear cs ct
    replace hb := hb.trans (hV37.mono hb.size)
    have cs := (hb.cell (p := ⟨Bs, 0, none⟩) Hls.out).trans Hcs.out
    have ct := (hb.cell (p := ⟨Bt, 0, none⟩) Hlt.out).trans Hct.out
    clear hV37
    go_wp2_with fail
    refine (Crhas.out _ hb).mono ?_
    rintro e v60 ⟨rfl, hq60⟩
    have hq60' := hq60.symm
    clear hq60
    subst hq60'
    go_wp2_with fail
    refine (Csame.out _ hb).mono ?_
    rintro e v38 ⟨rfl, hV38⟩
    clear cs ct
    replace hb := hb.trans (hV38.mono hb.size)
    have cs := (hb.cell (p := ⟨Bs, 0, none⟩) Hls.out).trans Hcs.out
    have ct := (hb.cell (p := ⟨Bt, 0, none⟩) Hlt.out).trans Hct.out
    clear hV38
    go_wp2_with fail
    go_ret
    exact ⟨rfl, Hb7.out.trans (hb.mono Hb7.out.size)⟩
end Lw
end Go.Proofs.YtgmjafammdkgfaaDoor
