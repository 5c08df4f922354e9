/- The law's own comparison of rows with the reference's: they are the same. From an argument as the statement reads it to the words of this seat: a slice of integers. -/
import Derived.BigQuiet
import Derived.Deep.QuietTactic
import Derived.ProofKit
import Derived.OpenShut
import Derived.Test.YtfeolclpgilfdaaPk23
import Derived.Test.YtfeolclpgilfdaaPk17
import Derived.Test.YtfeolclpgilfdaaPk01
namespace Go.Proofs.Ytfeolclpgilfdaa
set_option maxRecDepth 20000
open Go.RowKit Go.Maps
namespace Rf
open Va (Vl May null)
open Sc (Sch FitS MayS fits fits_get tr tr_yes tr_no tr_iff tr_congr)
open Rw
theorem ints_true {A B : Option Addr} {n m c d : Nat} {xs : List Int} {w : World} (ha : Wd.Sl w .i64 A n c xs) (hb : Wd.Sl w .i64 B m d xs) :
    Calls Try.prog 38 #[.slice A n c, .slice B m d] w fun e w' => e = .returned (.bool true) ∧ ∃ q, w' = w.drewN q := by
  have := Nc.ints_any A B n m c d xs xs w ha hb
  rw [decide_eq_true rfl] at this
  exact this
theorem find_no {w : World} {r : Nat} {S : St} {F : Nat → Prop} (h : R w r S F) (ok : Ok S) (k : Int) (hk : ¬ (0 ≤ k ∧ k < (S.s.cols.length : Int))) :
    Calls Try.prog 42 #[Dt.pt r, .int .i64 k] w fun e w' => e = .returned (.agg #[.pointer none, .slice none 0 0]) ∧ Below w.heap.size w w' := by
  obtain ⟨g, A, n, c, cd, ov, hn, hl, -⟩ := h
  have := (cols_len ok).2
  exact find_out hl (by omega) k (by omega)
set_option maxHeartbeats 8000000 in
theorem same_any {wo w : World} {r q : Nat} {A : Option Addr} {n c : Nat} {lv ov : Value} {us : List Value} {S : St} {F : Nat → Prop} (hO : Ob wo w r S F) (h : RL wo w q A n c lv ov us S) :
    Calls Try.prog 15 #[Dt.pt r, pt q] w fun e w' => e = .returned (.bool true) ∧ Below w.heap.size w w' := by
  have hn8 : n ≤ 8 := by rw [h.sch.len]; exact (cols_len hO.ok).2
  obtain ⟨N, hN⟩ : ∃ N, N = S.rows.length := ⟨_, rfl⟩
  have HN := Lib.hid hN
  have hN4 : N ≤ 4096 := by rw [hN]; have := hO.ok.few; have := hO.ok.m1; omega
  obtain ⟨Al, cl, hlv⟩ : ∃ Al cl, lv = .slice Al N cl := by rw [hN]; exact Dt.own_shape h.rl
  subst hlv
  obtain ⟨Ao, no, co, hov, hSo⟩ := Wd.Sl.of_own h.off
  subst hov
  obtain rfl : no = N := by rw [hSo.len, hO.ok.len, hN]
  have HH := Lib.hid h
  have HO := Lib.hid hO
  have HSo := Lib.hid hSo
  have Cof := Lib.hid (offsets_any (hO.below (Below.refl _ _).drew).mem hO.ok)
  have z10 : w.drew.cell? ⟨q, 8, none⟩ = some (.slice Ao no co) := h.cs.2.2.2.2.2.2.2.2
  clear hN h hO hSo
  go_enter Try.func15, Try.ntmps15
  go_wp2_with fail
  go_region_held3 (fun w' => w'.cell? ⟨q, 8, none⟩ = some (.slice Ao no co)) (with_reducible first | exact z10) (first
    | (go_at_call 22; (with_reducible refine Cof.out.mono ?_); rintro e w1 ⟨v, rfl, hown, hB1⟩; obtain ⟨A1, n1, c1, rfl, hS1⟩ := Wd.Sl.of_own hown; have HB1 := Lib.hid (show Below w.heap.size w w1 from (Below.refl _ _).drew.trans hB1); have z10 := (HH.out.below HB1.out).cs.2.2.2.2.2.2.2.2; have Ci := Lib.hid (ints_true hS1 (HSo.out.below HB1.out)); clear hown hB1 hS1)
    | (go_at_call 38; (with_reducible refine Ci.out.mono ?_); rintro e w2 ⟨rfl, k2, rfl⟩; have z10 := (HH.out.below (Wd.below_drewN HB1.out k2)).cs.2.2.2.2.2.2.2.2))
  have HB2 := Lib.hid (Wd.below_drewN HB1.out k2)
  clear z10 Ci Cof HB1
  generalize w1.drewN k2 = w2 at *
  have HO2 := Lib.hid (HO.out.below HB2.out)
  have Cl := Lib.hid (ob_len (HO2.out.below (Below.refl _ _).drew))
  rw [← HN.out] at Cl
  have z10 : w2.drew.cell? ⟨q, 7, none⟩ = some (.slice Al no cl) := (HH.out.below HB2.out).cs.2.2.2.2.2.2.2.1
  go_wp2_with fail
  go_region_held3 (fun w' => w'.cell? ⟨q, 7, none⟩ = some (.slice Al no cl)) (with_reducible first | exact z10) (first
    | (go_at_call 16; (with_reducible refine Cl.out.mono ?_); rintro e w3 ⟨rfl, e3⟩; subst e3))
  have HB3 := Lib.hid (HB2.out.drew)
  clear z10 Cl HO2 HB2
  generalize w2.drew = w3 at *
  obtain ⟨-, -, -, -, -, -, -, d7, d8⟩ := (HH.out.below HB3.out).cs
  go_wp2_with fail
  clear d7 d8
  go_loopw [6] (fun i wr => ∃ p : Nat, i = .int .i64 p ∧ p ≤ no ∧ Below w.heap.size w wr) (fun i _ => no - (intOf i).toNat)
  case atStart => exact ⟨0, rfl, Nat.zero_le _, HB3.out⟩
  case round =>
    obtain ⟨p, rfl, hp, hB⟩ := hrel
    have HB := Lib.hid hB
    have hr := HH.out.below hB
    obtain ⟨-, -, -, -, -, -, -, d7, d8⟩ := hr.cs
    have HBo := Lib.hid (HO.out.below hB)
    clear hB hr
    by_cases hpn : p < no
    · have hpI : (p : Int) < (no : Int) := by omega
      have hps : p < S.rows.length := by rw [← HN.out]; exact hpn
      obtain ⟨T, hT⟩ : ∃ T, T = S.rows.getD p [] := ⟨_, rfl⟩
      have hTm : T ∈ S.rows := by rw [hT, List.getD_eq_getElem?_getD, List.getElem?_eq_getElem hps]; exact List.getElem_mem hps
      have Ca := Lib.hid (at_in HBo.out.mem HBo.out.ok p hps)
      obtain ⟨zo, hzo⟩ : ∃ zo, zo = S.offs.getD p 0 := ⟨_, rfl⟩
      obtain ⟨n', hn'⟩ : ∃ n', n' = S.s.cols.length := ⟨_, rfl⟩
      rw [← hT, ← hzo, ← hn'] at Ca
      have hn8 : n' ≤ 8 := by rw [hn']; exact (cols_len HO.out.ok).2
      have HTl := Lib.hid (show T.length = n' from by rw [hn']; exact row_len HO.out.ok hTm)
      have HT1 := Lib.hid (v1_rows HO.out.ok T hTm)
      have Hps := Lib.hid hps
      have HT := Lib.hid hT
      have Hzo := Lib.hid hzo
      have hno1 : 0 < S.offs.length := by rw [HO.out.ok.len]; omega
      obtain ⟨b2, o2, hA2, hb2lt, hcell⟩ := HSo.out.rd.some_ hno1
      subst hA2
      have cl2 := hcell p (by rw [HO.out.ok.len]; exact hps)
      rw [← hzo] at cl2
      have Hcl := Lib.hid (And.intro hb2lt cl2)
      clear hT hTm hn' hps hzo hcell hno1 hb2lt cl2
      go_wp2_with fail
      refine Ca.out.mono ?_
      rintro e w4 ⟨gr, rfl, hR4, -, hB4⟩
      have HB4 := Lib.hid (HB.out.trans (hB4.mono HB.out.size))
      have HR4 := Lib.hid hR4
      have hr4 := HH.out.below HB4.out
      obtain ⟨g5, c5, A5, n5, c5', hl5, hg5, hc5, hV5⟩ := hr4.row (v1_rows HO.out.ok) Hps.out
      rw [← HT.out] at hV5
      obtain ⟨rfl, -, rfl⟩ : Al = some ⟨g5, 0, none⟩ ∧ no = S.rows.length ∧ cl = c5 := by injection hl5 with e1 e2 e3; exact ⟨e1, e2, e3⟩
      obtain ⟨-, -, -, -, -, -, -, d7, d8⟩ := hr4.cs
      have Cs := Lib.hid (Sx.sameV_any _ _ _ _ _ _ _ _ w4 (HR4.out.vs n' HTl.out.symm (by unfold maxLen; omega) HT1.out) hV5)
      rw [tr_yes rfl] at Cs
      clear hl5 hr4 hR4 hB4 hV5 hg5 Ca
      go_wp2_with fail
      refine Cs.out.mono ?_
      rintro e w5 ⟨rfl, hB5⟩
      have HB5 := Lib.hid (HB4.out.trans (hB5.mono HB4.out.size))
      clear d7 d8 hc5 Cs hB5
      obtain ⟨-, -, -, -, -, -, -, d7, d8⟩ := (HH.out.below HB5.out).cs
      have cl5 := (HB5.out.cell (p := ⟨b2, o2 + p, none⟩) Hcl.out.1).trans Hcl.out.2
      go_wp2_with fail
      go_roundw
      case rel => exact ⟨p + 1, by go_num, by omega, HB5.out⟩
      case measure => simp [intOf]; omega
    · have hpI : ¬ (p : Int) < (no : Int) := by omega
      go_wp2_with fail
      clear d7 d8 hpI hpn hp
      go_loopw [11] (fun i wz => ∃ k : Nat, i = .int .i64 k ∧ k ≤ n ∧ Below w.heap.size w wz) (fun i _ => n - (intOf i).toNat)
      case atStart => exact ⟨0, rfl, Nat.zero_le _, HB.out⟩
      case round =>
        clear HB HBo
        obtain ⟨k, rfl, hk, hB⟩ := hrel
        have HB := Lib.hid hB
        have HBo := Lib.hid (HO.out.below hB)
        have HBr := Lib.hid (HH.out.below hB)
        obtain ⟨d0, -, -, -, -, -, -, d7, d8⟩ := HBr.out.cs
        clear hB
        by_cases hkn : k < n
        · have hkI : (k : Int) < (n : Int) := by omega
          have hks : k < S.s.cols.length := by rw [← HBr.out.sch.len]; exact hkn
          have Hks := Lib.hid hks
          obtain ⟨C, hC⟩ : ∃ C, C = col S.rows k := ⟨_, rfl⟩
          have HC := Lib.hid hC
          have Cc := Lib.hid (column_in HBo.out.mem HBo.out.ok k hks)
          rw [← HN.out, ← hC] at Cc
          have HCl := Lib.hid (show no = C.length by rw [hC, col_len, HN.out])
          have HC1 := Lib.hid (v1_mem (show ∀ v ∈ C, Wd.V1 v from fun v hv => Sx.v1_of (col_ok HO.out.ok hks v (by rw [← hC]; exact hv))))
          clear hC hks
          go_wp2_with fail
          refine Cc.out.mono ?_
          rintro e w5 ⟨gc, rfl, hR5, -, hB5⟩
          have HB5 := Lib.hid (HB.out.trans (hB5.mono HB.out.size))
          have HR5 := Lib.hid hR5
          have Cd := Lib.hid (column_any (HH.out.below HB5.out) HO.out.ok k Hks.out)
          rw [← HC.out] at Cd
          clear Cc hB5 hR5 d0 d7 d8
          go_wp2_with fail
          refine Cd.out.mono ?_
          rintro e w6 ⟨v, rfl, hown, hB6⟩
          have HB6 := Lib.hid (HB5.out.trans (hB6.mono HB5.out.size))
          obtain ⟨A6, n6, c6, rfl, hV6⟩ := Wd.Vs.of_own hown HC1.out
          have Cs := Lib.hid (Sx.sameV_any _ _ _ _ _ _ _ _ w6 ((Wd.RowV.below HR5.out HR5.out.lt hB6).vs no HCl.out (by unfold maxLen; omega) HC1.out) hV6)
          rw [tr_yes rfl] at Cs
          clear hown hV6 hB6 Cd
          go_wp2_with fail
          refine Cs.out.mono ?_
          rintro e w7 ⟨rfl, hB7⟩
          have HB7 := Lib.hid (HB6.out.trans (hB7.mono HB6.out.size))
          obtain ⟨nL, hnL⟩ : ∃ nL, nL = (ow C).length := ⟨_, rfl⟩
          have HnL := Lib.hid hnL
          have hnL4 : nL ≤ 4096 := by rw [hnL]; have := ow_len C; have := HCl.out; omega
          have Cv := Lib.hid (values_in (HO.out.below HB7.out).mem HO.out.ok k Hks.out)
          rw [← HC.out, ← hnL] at Cv
          clear hB7 Cs hnL
          go_wp2_with fail
          refine Cv.out.mono ?_
          rintro e w8 ⟨rfl, hB8⟩
          have HB8 := Lib.hid (HB7.out.trans (hB8.mono HB7.out.size))
          have Co := Lib.hid (own_any (HH.out.below HB8.out) HO.out.ok k Hks.out)
          rw [← HC.out, ← HnL.out] at Co
          clear hB8 Cv
          go_wp2_with fail
          refine Co.out.mono ?_
          rintro e w9 ⟨v, rfl, hown9, hB9⟩
          have HB9 := Lib.hid (HB8.out.trans (hB9.mono HB8.out.size))
          obtain ⟨A9, c9, rfl⟩ := Dt.own_shape hown9
          clear hown9 hB9 Co
          go_wp2_with fail
          go_roundw
          case rel => exact ⟨k + 1, by go_num, by omega, HB9.out⟩
          case measure => simp [intOf]; omega
        · have hkI : ¬ (k : Int) < (n : Int) := by omega
          have Ca := Lib.hid (at_out HBo.out.mem HO.out.ok (no : Int) (by rw [← HN.out]; omega))
          have Hsl := Lib.hid HBr.out.sch.len
          go_wp2_with fail
          refine Ca.out.mono ?_
          rintro e w5 ⟨rfl, hB5⟩
          have HB5 := Lib.hid (HB.out.trans (hB5.mono HB.out.size))
          clear Ca hB5 d0 d7 d8
          have Ca := Lib.hid (at_out (HO.out.below HB5.out).mem HO.out.ok (-1) (by omega))
          go_wp2_with fail
          refine Ca.out.mono ?_
          rintro e w6 ⟨rfl, hB6⟩
          have HB6 := Lib.hid (HB5.out.trans (hB6.mono HB5.out.size))
          clear Ca hB6
          have Cc := Lib.hid (column_none (find_no (HO.out.below HB6.out).mem HO.out.ok (-1) (by omega)))
          go_wp2_with fail
          refine Cc.out.mono ?_
          rintro e w7 ⟨g7, rfl, -, -, hB7⟩
          have HB7 := Lib.hid (HB6.out.trans (hB7.mono HB6.out.size))
          clear Cc hB7
          obtain ⟨d0, -, -, -, -, -, -, -, -⟩ := (HH.out.below HB7.out).cs
          have Cc := Lib.hid (column_none (find_no (HO.out.below HB7.out).mem HO.out.ok (n : Int) (by have := Hsl.out; omega)))
          go_wp2_with fail
          refine Cc.out.mono ?_
          rintro e w8 ⟨g8, rfl, -, -, hB8⟩
          have HB8 := Lib.hid (HB7.out.trans (hB8.mono HB7.out.size))
          clear Cc hB8 d0
          have Cv := Lib.hid (values_none (find_no (HO.out.below HB8.out).mem HO.out.ok (-1) (by omega)))
          go_wp2_with fail
          refine Cv.out.mono ?_
          rintro e w9 ⟨rfl, hB9⟩
          have HB9 := Lib.hid (HB8.out.trans (hB9.mono HB8.out.size))
          clear hB9 Cv
          go_wp2_with fail
          go_ret
          exact ⟨rfl, HB9.out⟩
end Rf
end Go.Proofs.Ytfeolclpgilfdaa
namespace Go.Proofs.Ytfeolclpgilfdaa
set_option maxRecDepth 20000
open Go.RowKit Go.ChangeShapes Go.WideShapes
namespace Wd
theorem open_sl {H : Type} {enc : TypeId × Value → H} {P : Program} {W : World} {r : Reach} {base0 base : Nat} {spare : Nat → Bool} {held : Bool} {t e : TypeId} {k : IntKind} {v : Value} {d : DataW H} {ps : List MemPlace}
    (ht : P.underlying t = some (.slice e)) (he : P.underlying e = some (.int k)) (hc : P.cellsOf e = 1) (hok : Value.okWide P W r base0 t v) (h : DataW.Trod enc P W base spare held t v d ps) :
    ∃ A n c xs, v = .slice A n c ∧ Sl W k A n c xs ∧ Fits k xs := by
  obtain ⟨A, n, c, rfl⟩ := okWide_slice ht hok
  obtain ⟨fuel, hf⟩ := h
  rcases open_ints ht he hc hf with ⟨hcs, _⟩ | ⟨x, l, cc, zs, hcs, _, hl, hm, hz, _, hcell, hwz⟩
  · simp [Value.cells] at hcs
    obtain ⟨rfl, rfl, rfl⟩ := hcs
    exact ⟨none, 0, 0, [], rfl, Sl.none_ _ _, fun x hx => by simp at hx⟩
  · simp [Value.cells] at hcs
    obtain ⟨rfl, rfl, rfl⟩ := hcs
    have hlz : n ≤ zs.length := by rw [hz]; split <;> omega
    refine ⟨_, _, _, zs.take n, rfl, ⟨by simp [hlz], hl, hm, by simp, ?_⟩, fun y hy => hwz y (List.mem_of_mem_take hy)⟩
    refine Rd.take (fun j hj => ?_) n
    obtain ⟨b, o, rfl, h1⟩ := ints_at hcell (by omega)
    have h2 := h1 j hj
    exact ⟨b, o, rfl, World.block_lt_of_cell? W ⟨b, o + j, none⟩ h2, h2⟩
end Wd
end Go.Proofs.Ytfeolclpgilfdaa
