/- The chapter's example holds: the function awake of layer 10's statements answers true. Package column: Values, At, Ends. -/
import Derived.Test.YtnhgijlhnamolaaGreatDoorPk08
import Derived.Test.YtnhgijlhnamolaaGreatDoorPk25
import Derived.Test.YtnhgijlhnamolaaGreatDoorPk27
import Derived.Test.YtnhgijlhnamolaaGreatDoorPk11
import Derived.Test.YtnhgijlhnamolaaGreatDoorPk18
import Derived.Test.YtnhgijlhnamolaaGreatDoorPk19
namespace Go.Proofs.YtnhgijlhnamolaaGreatDoor
set_option maxRecDepth 20000
open Go.RowKit
namespace Cx
open Va (Vl May ord null)
open Sc (tr tr_yes tr_no tr_iff)
open Co
open Bi (I64 Gv Tab hd hd_all)
open Bw (St)
theorem vI_v1 (i : Int) (h0 : -9223372036854775808 ≤ i) (h1 : i ≤ 9223372036854775807) : Wd.V1 (vI i) := Sx.v1_of ⟨ex_may i, h0, h1⟩
theorem vs_lit (w : World) (L : List Vl) (cs : Array Value) (n : Nat) (hc : cs = (Wd.flatV L).toArray) (hn : n = L.length) (hm : n ≤ maxLen) (h1 : ∀ j, j < L.length → Wd.V1 (L.getD j default)) : Wd.Vs (w.alloc (.cells cs 34)) (some ⟨w.heap.size, 0, none⟩) n n L := by
  subst hc
  exact Wd.RowV.vs (Wd.Bx.new w 34 (Wd.flatV L).toArray) n hn hm h1
theorem n_any (i : Int) (w : World) :
    Calls Tryz.prog 21 #[.int .i64 i] w fun e w' => e = .returned (.agg #[.int .i64 1, .int .i64 i, .string ⟨#[]⟩, .bool false]) ∧ Below w.heap.size w w' := by
  go_enter Tryz.func21, Tryz.ntmps21
  go_wp2_with fail
  (try simp only [Exit.inBlock, Exit.then])
  refine bodyPost_ret (v := .agg #[.int .i64 1, .int .i64 i, .string ⟨#[]⟩, .bool false]) ?_ rfl ⟨rfl, ?_⟩
  · rw [Vc.res_cell1 rfl]; go_simp
  · repeat' (first | exact Below.refl _ _ | refine Below.setCell ?_ (by simp) _ | refine Below.alloc ?_ (by simp <;> omega) _)
theorem st_below {w w' : World} {A : Option Addr} {n c : Nat} {X : List Int} (h : St w A n c X) (hb : Below w.heap.size w w') : St w' A n c X := by
  obtain ⟨L, hS, hw, ht, e⟩ := h
  exact ⟨L, hS.below hb, hw, ht, e⟩
theorem v1_73 : ∀ j, j < [vI 3, vI 7].length → Wd.V1 ([vI 3, vI 7].getD j default) := by
  intro j hj
  match j, hj with
  | 0, _ => exact vI_v1 3 (by omega) (by omega)
  | 1, _ => exact vI_v1 7 (by omega) (by omega)
theorem v1_737 : ∀ j, j < [vI 7, vI 3, vI 7].length → Wd.V1 ([vI 7, vI 3, vI 7].getD j default) := by
  intro j hj
  match j, hj with
  | 0, _ => exact vI_v1 7 (by omega) (by omega)
  | 1, _ => exact vI_v1 3 (by omega) (by omega)
  | 2, _ => exact vI_v1 7 (by omega) (by omega)
theorem sz_737 : ∀ x ∈ [vI 7, vI 3, vI 7], x.s.size ≤ maxLen := by
  intro x hx
  simp only [List.mem_cons, List.not_mem_nil, or_false] at hx
  unfold maxLen
  rcases hx with rfl | rfl | rfl <;> decide
set_option maxHeartbeats 8000000 in
theorem awake_any (w : World) (hT : Tab w) : Calls Tryz.prog 4 #[] w fun e w' => e = .returned (.bool true) ∧ Below w.heap.size w w' := by
  have HT := Lib.hid hT
  have N3 := Lib.hid fun w => n_any 3 w
  have N7 := Lib.hid fun w => n_any 7 w
  have CB := Lib.hid fun (w : World) => (by have := cbuild_any _ 3 3 [vI 7, vI 3, vI 7] _ (vs_lit w [vI 7, vI 3, vI 7] #[.int .i64 1, .int .i64 7, .string ⟨#[]⟩, .bool false, .int .i64 1, .int .i64 3, .string ⟨#[]⟩, .bool false, .int .i64 1, .int .i64 7, .string ⟨#[]⟩, .bool false] 3 rfl rfl (by decide) v1_737) sz_737; rw [ex_build] at this; exact this : Calls Tryz.prog 20 #[.slice (some ⟨w.heap.size, 0, none⟩) 3 3] (w.alloc (.cells #[.int .i64 1, .int .i64 7, .string ⟨#[]⟩, .bool false, .int .i64 1, .int .i64 3, .string ⟨#[]⟩, .bool false, .int .i64 1, .int .i64 7, .string ⟨#[]⟩, .bool false] 34)) (OutC _ (exC, 0)))
  clear hT
  go_enter Tryz.func4, Tryz.ntmps4
  go_wp2_with fail
  refine (N7.out _).mono ?_
  rintro e w1 ⟨rfl, hB1⟩
  go_wp2_with fail
  refine (N3.out _).mono ?_
  rintro e w2 ⟨rfl, hB2⟩
  go_wp2_with fail
  refine (N7.out _).mono ?_
  rintro e w3 ⟨rfl, hB3⟩
  have hb2 := hB1.trans (hB2.mono hB1.size)
  have hb3 := hb2.trans (hB3.mono hb2.size)
  have Hb3 := Lib.hid hb3
  clear hB1 hB2 hB3 hb2 hb3
  go_wp2_with fail
  refine (CB.out _).mono ?_
  rintro e w4 ⟨A, n, c, B, m, d, he, hCl, hB4⟩
  replace he : e = .returned (.tuple #[.agg #[.int .i64 3, .slice A n c, .slice B m d], .int .i64 0]) := he
  subst he
  have hb4 : Below w.heap.size w w4 := (Hb3.out.alloc Hb3.out.size _).trans (hB4.mono ((Hb3.out.alloc Hb3.out.size _).size))
  obtain rfl : n = 2 := hCl.dict.len
  obtain rfl : m = 1 := hCl.ids.len
  have x0 := Cb.new w4 3 A 2 c B 1 d
  have hk := (Below.refl w4.heap.size w4).alloc (Nat.le_refl _) (.cells #[.int .i64 3, .slice A 2 c, .slice B 1 d] 25)
  have hb5 := hb4.trans (hk.mono hb4.size)
  have hCl5 := hCl.below hk
  have hc2 := hCl.dict.cap
  have hd2 := hCl.ids.cap
  obtain ⟨w5, hw5⟩ : ∃ w5, w5 = w4.alloc (.cells #[.int .i64 3, .slice A 2 c, .slice B 1 d] 25) := ⟨_, rfl⟩
  obtain ⟨b, hbq⟩ : ∃ b, b = w4.heap.size := ⟨_, rfl⟩
  rw [← hw5, ← hbq] at x0
  rw [← hw5] at hb5 hCl5
  have Hw5 := Lib.hid hw5
  have Hbq := Lib.hid hbq
  have c0 := x0.c0
  have c1 := x0.c1
  have c2 := x0.c2
  have hbl := x0.lt
  have HCl := Lib.hid hCl5
  have Hb5 := Lib.hid hb5
  clear hB4 hb4 hk hCl hCl5 hb5 hw5 hbq CB
  go_wp2_with fail
  rw [← Hw5.out, ← Hbq.out]
  go_upto_region 2 with fail
  go_cut [3] (fun u wz => u = .bool true ∧ Below w5.heap.size w5 wz)
  case first =>
    have hb := (Below.refl w5.heap.size w5).drew
    have z10 : w5.drew.cell? ⟨b, 1, none⟩ = some (.slice A 2 c) := c1
    go_region_held3 (fun w' => w'.cell? ⟨b, 1, none⟩ = some (.slice A 2 c)) (first | with_reducible exact z10 | exact ((hb.alloc hb.size _).cell (p := ⟨b, 1, none⟩) hbl).trans c1) (first
      | (go_at_call 21; (with_reducible refine (N3.out _).mono ?_); rintro e wz ⟨rfl, hBz⟩; have hb := hb.trans (hBz.mono hb.size); have z10 := (hb.cell (p := ⟨b, 1, none⟩) hbl).trans c1)
      | (go_at_call 21; (with_reducible refine (N7.out _).mono ?_); rintro e wz ⟨rfl, hBz⟩; have hb := hb.trans (hBz.mono hb.size); have z10 := (hb.cell (p := ⟨b, 1, none⟩) hbl).trans c1)
      | (go_at_call 8; refine (Sx.sameV_any A 2 c [vI 3, vI 7] _ 2 2 [vI 3, vI 7] _ (HCl.out.dict.below (hb.alloc hb.size _)) (vs_lit _ [vI 3, vI 7] _ 2 rfl rfl (by decide) v1_73)).mono ?_; rintro e wz ⟨rfl, hBz⟩; have hb := (hb.alloc hb.size _).trans (hBz.mono (hb.alloc hb.size _).size); have z10 := (hb.cell (p := ⟨b, 1, none⟩) hbl).trans c1))
    all_goals (
      go_wp2_with fail
      go_meet
      exact ⟨by rw [tr_yes trivial], hb⟩)
  case rest =>
    obtain ⟨rfl, hbc⟩ := hcut
    have hbl6 := Nat.lt_of_lt_of_le hbl hbc.size
    have y0 := x0.below hbl hbc
    have Hbc := Lib.hid hbc
    clear c0 c1 c2
    have c0 := y0.c0
    have c1 := y0.c1
    have c2 := y0.c2
    have hCl6 := HCl.out.below hbc
    have HCl6 := Lib.hid hCl6
    have hbk := Hb5.out.trans (hbc.mono Hb5.out.size)
    have Hbk := Lib.hid hbk
    clear hbc hCl6 hbk N3 N7
    go_wp2_with fail
    refine (Nc.same_yes B _ 1 1 d 1 [5] [5] _ (HCl6.out.ids.below ((Below.refl _ _).alloc (Nat.le_refl _) _)) (Wd.Sl.lit wc .u8 [5] 5 _ 1 rfl rfl (by decide)) rfl).mono ?_
    rintro e w7 ⟨rfl, hB7⟩
    have hx7 : Below wc.heap.size wc w7 := ((Below.refl _ wc).alloc (Nat.le_refl _) _).trans (hB7.mono (by simp))
    have y7 := y0.below hbl6 hx7
    have hl7 := y7.lt
    have HCl7 := Lib.hid (HCl6.out.below hx7)
    have Hb7 := Lib.hid (Hbk.out.trans (hx7.mono Hbk.out.size))
    clear c0 c1 c2 hB7 hx7
    have c0 := y7.c0
    have c1 := y7.c1
    have c2 := y7.c2
    have CR := Lib.hid (by have := range_any A 2 c B 1 d exC 1 2 w7 HCl7.out (by omega) (by omega); rw [ex_rng] at this; exact this : Calls Tryz.prog 13 #[.agg #[.int .i64 3, .slice A 2 c, .slice B 1 d], .int .i64 1, .int .i64 2] w7 (Gv St w7 [0, 2]))
    go_wp2_with fail
    refine CR.out.mono ?_
    rintro e w8 ⟨A8, n8, c8, rfl, hS8, hB8⟩
    have y8 := y7.below hl7 hB8
    have hl8 := y8.lt
    have HCl8 := Lib.hid (HCl7.out.below hB8)
    have Hb8 := Lib.hid (Hb7.out.trans (hB8.mono Hb7.out.size))
    have CL := Lib.hid (by have := Bw.list_of hS8 (HT.out.below Hb8.out) (-1); rw [hd_all] at this; exact this : Calls Tryz.prog 12 #[.agg #[.slice A8 n8 c8], .int .i64 (-1)] w8 (Wd.Out w8 .i64 [0, 2]))
    clear hB8 hS8 c0 c1 c2
    go_wp2_with fail
    refine CL.out.mono ?_
    rintro e w9 ⟨A9, n9, c9, rfl, hL9, hB9⟩
    have y9 := y8.below hl8 hB9
    have hl9 := y9.lt
    have HCl9 := Lib.hid (HCl8.out.below hB9)
    have Hb9 := Lib.hid (Hb8.out.trans (hB9.mono Hb8.out.size))
    obtain rfl : n9 = 2 := hL9.len
    have HL9 := Lib.hid hL9
    clear hB9 hL9
    go_wp2_with fail
    refine (Nc.ints_yes A9 _ 2 2 c9 2 [0, 2] [0, 2] _ (HL9.out.below ((Below.refl _ _).alloc (Nat.le_refl _) _)) (Wd.Sl.lit w9 .i64 [0, 2] 3 _ 2 rfl rfl (by decide)) rfl).mono ?_
    rintro e w10 ⟨rfl, hB10⟩
    have hx10 : Below w9.heap.size w9 w10 := ((Below.refl _ w9).alloc (Nat.le_refl _) _).trans (hB10.mono (by simp))
    have y10 := y9.below hl9 hx10
    have c0 := y10.c0
    have c1 := y10.c1
    have c2 := y10.c2
    have CM := Lib.hid (by have := cmay_any A 2 c B 1 d exC w10 (HCl9.out.below hx10) (by omega) (by omega); rw [tr_yes ex_valid] at this; exact this : Calls Tryz.prog 18 #[.agg #[.int .i64 3, .slice A 2 c, .slice B 1 d]] w10 fun e w' => e = .returned (.bool true) ∧ Below w10.heap.size w10 w')
    have Hb10 := Lib.hid (Hb9.out.trans (hx10.mono Hb9.out.size))
    clear hB10 hx10
    go_wp2_with fail
    refine CM.out.mono ?_
    rintro e w11 ⟨rfl, hB11⟩
    have Hb11 := Lib.hid (Hb10.out.trans (hB11.mono Hb10.out.size))
    go_wp2_with fail
    go_ret
    exact ⟨rfl, Hb11.out⟩
end Cx
end Go.Proofs.YtnhgijlhnamolaaGreatDoor
namespace Go.Proofs.YtnhgijlhnamolaaGreatDoor
set_option maxRecDepth 20000
open Go.RowKit
namespace Cx
open Va (Vl May ord null)
open Sc (tr tr_yes tr_no tr_iff)
open Co
open Bi (I64)
theorem valL {C : Col} {A : Option Addr} {n c : Nat} {w : World} (h : Wd.Vs w A n c C.dict) : ∀ j, j < (values C).length → Wd.V1 ((values C).getD j default) := by
  intro j hj
  rw [values_len] at hj
  have hx : (nums C).getD j 0 ∈ nums C := by
    rw [List.getD_eq_getElem?_getD, List.getElem?_eq_getElem hj]
    exact List.getElem_mem hj
  obtain ⟨_, h0, h1⟩ := nums_in hx
  have e : (values C).getD j default = C.dict.getD ((nums C).getD j 0).toNat default := by
    unfold values
    rw [List.getD_eq_getElem?_getD, List.getElem?_map, List.getElem?_eq_getElem hj, Option.map_some, Option.getD_some]
    rw [List.getD_eq_getElem?_getD (l := nums C), List.getElem?_eq_getElem hj, Option.getD_some]
  rw [e]
  obtain ⟨_, _, _, _, _, h2⟩ := h.at_ _ (show ((nums C).getD j 0).toNat < C.dict.length by omega)
  exact h2
/-- The first k values, and nothing behind. -/
def fillV (l : List Vl) (k : Nat) : List Vl := l.take k ++ List.replicate (l.length - k) null
theorem fillV_zero (l : List Vl) : fillV l 0 = List.replicate l.length null := by simp [fillV]
theorem fillV_all (l : List Vl) : fillV l l.length = l := by simp [fillV]
theorem fillV_len (l : List Vl) (k : Nat) : (fillV l k).length = l.length := by simp [fillV]; omega
theorem fillV_set (l : List Vl) (k : Nat) (hk : k < l.length) : (fillV l k).set k (l.getD k default) = fillV l (k + 1) := by
  refine List.ext_getElem (by simp [fillV_len]) fun i h1 h2 => ?_
  simp only [fillV_len, List.length_set] at h1 h2
  rw [List.getElem_set]
  simp only [fillV, List.getElem_append, List.length_take, List.getElem_take, List.getElem_replicate]
  by_cases e : k = i
  · subst e
    rw [if_pos rfl, dif_pos (by omega)]
    simp [List.getD, hk]
  · rw [if_neg e]
    by_cases q : i < min k l.length
    · rw [dif_pos q, dif_pos (by omega)]
    · rw [dif_neg q, dif_neg (by omega)]
set_option maxHeartbeats 8000000 in
theorem values_any (A : Option Addr) (n c : Nat) (B : Option Addr) (m d : Nat) (C : Col) (w : World) (h : Cl w A n c B m d C) (hn : n ≤ 1000) (hm : m ≤ 1000000) :
    Calls Tryz.prog 9 #[.agg #[.int .i64 C.n, .slice A n c, .slice B m d]] w (OutV w (values C)) := by
  obtain ⟨j0, hj, gz0, gz1, gz2⟩ := info_parts Wd.info_vl
  have hb0 := (Below.refl w.heap.size w).alloc (Nat.le_refl _) (.cells #[.int .i64 C.n, .slice A n c, .slice B m d] 25)
  have x0 := Cb.new w C.n A n c B m d
  have C1 := Lib.hid (unpack_any A n c B m d C _ (h.below hb0) hn hm)
  have hcap := h.dict.cap
  have hmx := h.dict.max
  unfold maxLen at hmx
  have HD := Lib.hid h.dict
  have Hn := Lib.hid h.dict.len
  have Hb0 := Lib.hid hb0
  have H1 := Lib.hid (valL h.dict)
  obtain ⟨L, hL⟩ : ∃ L, L = nums C := ⟨_, rfl⟩
  obtain ⟨T, hT⟩ : ∃ T, T = values C := ⟨_, rfl⟩
  have Hin := Lib.hid (show ∀ x ∈ L, 0 ≤ x ∧ x < (n : Int) from fun x hx => by
    rw [hL] at hx
    have := nums_in hx
    rw [h.dict.len]
    exact this.2)
  have Hll := Lib.hid (show L.length ≤ 4096 by rw [hL]; exact nums_4096 C)
  have HTl := Lib.hid (show T.length = L.length by rw [hT, hL]; exact values_len C)
  have HTk := Lib.hid (show ∀ k, k < L.length → T.getD k default = C.dict.getD (L.getD k 0).toNat default from fun k hk => by
    rw [hT]
    rw [hL] at hk ⊢
    unfold values
    rw [List.getD_eq_getElem?_getD, List.getElem?_map, List.getElem?_eq_getElem hk, Option.map_some, Option.getD_some]
    rw [List.getD_eq_getElem?_getD (l := nums C), List.getElem?_eq_getElem hk, Option.getD_some])
  have HT0 := Lib.hid (show ¬ Valid C → T = [] from fun q => by rw [hT]; exact values_no q)
  rw [← hL] at C1
  rw [← hT] at H1 ⊢
  have h4 := Hll.out
  obtain ⟨N, hN⟩ : ∃ N, N = C.n := ⟨_, rfl⟩
  rw [← hN] at x0 C1 Hb0 ⊢
  obtain ⟨r, hr⟩ : ∃ r, r = tr (Valid C) := ⟨_, rfl⟩
  rw [← hr] at C1
  have Hr := Lib.hid hr
  clear h hb0 hL hT hN hr
  have c0 := x0.c0
  have c1 := x0.c1
  have c2 := x0.c2
  go_enter Tryz.func9, Tryz.ntmps9
  go_wp2_with fail
  refine C1.out.mono ?_
  rintro e w1 ⟨P, p, q, rfl, hSl, hB1⟩
  have y0 := x0.below (by simp) hB1
  have hb1 := Hb0.out.trans (hB1.mono (by simp))
  have hlt1 := y0.lt
  have hpl := hSl.len
  have hpc := hSl.cap
  have hpm := hSl.max
  unfold maxLen at hpm
  have hp1 : p ≤ 4096 := by omega
  have Hpl := Lib.hid hpl
  have HSl := Lib.hid hSl
  have HD1 := Lib.hid (HD.out.below hb1)
  have Hb1 := Lib.hid hb1
  clear c0 c1 c2 x0 hB1 C1 hpl hSl hb1 h4 HD
  cases r with
  | false =>
    have e0 := HT0.out (fun q => by have := Hr.out; rw [tr_yes q] at this; cases this)
    have HE := Lib.hid e0
    clear e0
    go_wp2_with fail
    go_ret
    exact ⟨none, 0, 0, rfl, by rw [HE.out]; exact Wd.Vs.none_ _, Hb1.out⟩
  | true =>
  go_wp2_with (at_make; refine wpList_make_full _ rfl (.tmp 16) (.tmp 16) 22 rfl w1.heap.size 34 j0 _ 4 Tryz.underlying22 hj gz0 gz1 .i64 .i64 (p : Int) (p : Int) p rfl rfl rfl rfl (by rw [gz2]; omega) (by unfold maxLen; omega) (Nat.le_refl _) ?_; intro w3 hown hgrow; rw [Wd.made_null] at hown)
  obtain ⟨hR0, -, -⟩ := Wd.RowV.of_own hown
  have hB3 : Below w1.heap.size w1 w3 := (Below.refl _ _).grown hgrow (Nat.le_refl _) (by simp)
  have hR1 : Wd.RowV w3 w1.heap.size (fillV T 0) := by rw [fillV_zero, HTl.out, ← Hpl.out]; exact hR0
  have I0 := Lib.hid (And.intro hR1 hB3)
  clear hown hgrow hB3 hR0 hR1
  go_loopw [20] (fun j wr => ∃ k : Nat, j = .int .i64 k ∧ k ≤ p ∧ Wd.RowV wr w1.heap.size (fillV T k) ∧ Below w1.heap.size w1 wr) (fun j _ => p - (intOf j).toNat)
  case atStart => exact ⟨0, rfl, Nat.zero_le _, I0.out.1, I0.out.2⟩
  case round =>
    obtain ⟨k, rfl, hk, hR, hB⟩ := hrel
    by_cases hkp : k < p
    · have hkI : (k : Int) < p := by omega
      have hk0 : (0 : Int) ≤ (k : Int) := by omega
      have hkL : k < L.length := by rw [← Hpl.out]; exact hkp
      obtain ⟨b, o, hP, hbl, hc⟩ := (HSl.out.below hB).rd k hkL
      subst hP
      obtain ⟨x, hx⟩ : ∃ x, x = L.getD k 0 := ⟨_, rfl⟩
      have hxm : x ∈ L := by
        rw [hx, List.getD_eq_getElem?_getD, List.getElem?_eq_getElem hkL]
        exact List.getElem_mem hkL
      obtain ⟨hx0, hxn⟩ := Hin.out x hxm
      have hT := HTk.out k hkL
      rw [← hx] at hc hT
      obtain ⟨z, hz⟩ : ∃ z : Nat, x = (z : Int) := ⟨x.toNat, by omega⟩
      subst hz
      rw [Int.toNat_natCast] at hT
      have hzn : z < C.dict.length := by rw [← Hn.out]; omega
      have HDr := HD1.out.below hB
      obtain ⟨e, f, hA, heB, d0, d1, d2, d3, hv1⟩ := HDr.cells (j := z) hzn rfl
      subst hA
      obtain ⟨y, hy⟩ : ∃ y, y = C.dict.getD z default := ⟨_, rfl⟩
      rw [← hy] at d0 d1 d2 d3 hT
      obtain ⟨vk, vi, vs, vb⟩ := y
      have HT := Lib.hid hT
      have hc1 := (y0.below hlt1 hB).c1
      have hkT : k < (fillV T k).length := by rw [fillV_len, HTl.out]; exact hkL
      obtain ⟨u, ⟨u0, u1, u2, u3⟩, v0, v1, v2, v3⟩ := hR.four hkT
      have HR := Lib.hid hR
      have hzl := hR.lt
      have HB := Lib.hid hB
      have HkT := Lib.hid hkT
      have HkL := Lib.hid hkL
      clear hx hxm hT hzn hy HDr hv1 hR hB hkT hkL
      go_wp2_with fail
      go_roundw
      case rel =>
        refine ⟨k + 1, by go_num, by omega, ?_, ?_⟩
        · have e5 := fillV_set T k (by rw [HTl.out]; exact HkL.out)
          rw [HT.out] at e5
          rw [← e5]
          exact HR.out.set k HkT.out ⟨vk, vi, vs, vb⟩
        · exact (((HB.out.setCell (Nat.le_refl _) _).setCell (Nat.le_refl _) _).setCell (Nat.le_refl _) _).setCell (Nat.le_refl _) _
      case measure => simp [intOf]; omega
    · have hkI : ¬ (k : Int) < p := by omega
      obtain rfl : k = p := by omega
      have e2 : fillV T k = T := by rw [Hpl.out, ← HTl.out]; exact fillV_all T
      rw [e2] at hR
      have HR := Lib.hid hR
      have HB := Lib.hid (Hb1.out.trans (hB.mono Hb1.out.size))
      have HL := Lib.hid (show k = T.length by rw [HTl.out]; exact Hpl.out)
      clear hR hB e2
      go_wp2_with fail
      go_ret
      exact ⟨_, _, _, rfl, HR.out.vs k HL.out (by unfold maxLen; omega) H1.out, HB.out⟩
set_option maxHeartbeats 8000000 in
theorem at_any (A : Option Addr) (n c : Nat) (B : Option Addr) (m d : Nat) (C : Col) (i : Int) (w : World) (h : Cl w A n c B m d C) (hn : n ≤ 1000) (hm : m ≤ 1000000) (_hi : I64 i) :
    Calls Tryz.prog 10 #[.agg #[.int .i64 C.n, .slice A n c, .slice B m d], .int .i64 i] w fun e w' => ∃ k x s b r, (⟨k, x, s, b⟩, r) = atv C i ∧ e = .returned (.tuple #[.agg #[.int .i64 k, .int .i64 x, .string s, .bool b], .bool r]) ∧ Below w.heap.size w w' := by
  have hb0 := (Below.refl w.heap.size w).alloc (Nat.le_refl _) (.cells #[.int .i64 C.n, .slice A n c, .slice B m d] 25)
  have hb1 := hb0.alloc hb0.size (.cells #[.int .i64 0, .int .i64 0, .string ⟨#[]⟩, .bool false] 34)
  have x0 : Cb ((w.alloc (.cells #[.int .i64 C.n, .slice A n c, .slice B m d] 25)).alloc (.cells #[.int .i64 0, .int .i64 0, .string ⟨#[]⟩, .bool false] 34)) w.heap.size C.n A n c B m d := ⟨(Cb.new w C.n A n c B m d).bx.alloc _⟩
  have v0 : Vc.Vb ((w.alloc (.cells #[.int .i64 C.n, .slice A n c, .slice B m d] 25)).alloc (.cells #[.int .i64 0, .int .i64 0, .string ⟨#[]⟩, .bool false] 34)) (w.heap.size + 1) 0 0 ⟨#[]⟩ false := by
    have := Wd.Bx.new (w.alloc (.cells #[.int .i64 C.n, .slice A n c, .slice B m d] 25)) 34 #[.int .i64 0, .int .i64 0, .string ⟨#[]⟩, .bool false]
    rwa [World.size_alloc] at this
  have C1 := Lib.hid (unpack_any A n c B m d C _ (h.below hb1) hn hm)
  have hcap := h.dict.cap
  have hmx := h.dict.max
  unfold maxLen at hmx
  have HD := Lib.hid h.dict
  have Hn := Lib.hid h.dict.len
  have Hb1 := Lib.hid hb1
  obtain ⟨L, hL⟩ : ∃ L, L = nums C := ⟨_, rfl⟩
  have Hin := Lib.hid (show ∀ x ∈ L, 0 ≤ x ∧ x < (n : Int) from fun x hx => by
    rw [hL] at hx
    have := nums_in hx
    rw [h.dict.len]
    exact this.2)
  have Hll := Lib.hid (show L.length ≤ 4096 by rw [hL]; exact nums_4096 C)
  have Ha := Lib.hid (show ∀ k : Nat, k < L.length → atv C (k : Int) = (C.dict.getD (L.getD k 0).toNat default, true) from fun k hk => by
    rw [hL] at hk ⊢
    unfold atv
    rw [if_pos ⟨by omega, by omega⟩, Int.toNat_natCast]
    unfold values
    rw [List.getD_eq_getElem?_getD, List.getElem?_map, List.getElem?_eq_getElem hk, Option.map_some, Option.getD_some]
    rw [List.getD_eq_getElem?_getD (l := nums C), List.getElem?_eq_getElem hk, Option.getD_some])
  have Hz := Lib.hid (show ¬ (0 ≤ i ∧ i < (L.length : Int)) → atv C i = (null, false) from fun q => by rw [hL] at q; exact if_neg q)
  have Hz0 := Lib.hid (show ¬ Valid C → L = [] from fun q => by rw [hL]; exact nums_no q)
  rw [← hL] at C1
  have h4 := Hll.out
  obtain ⟨N, hN⟩ : ∃ N, N = C.n := ⟨_, rfl⟩
  rw [← hN] at x0 v0 C1 Hb1 ⊢
  obtain ⟨r, hr⟩ : ∃ r, r = tr (Valid C) := ⟨_, rfl⟩
  rw [← hr] at C1
  have Hr := Lib.hid hr
  obtain ⟨wa, hwa⟩ : ∃ wa, wa = (w.alloc (.cells #[.int .i64 N, .slice A n c, .slice B m d] 25)).alloc (.cells #[.int .i64 0, .int .i64 0, .string ⟨#[]⟩, .bool false] 34) := ⟨_, rfl⟩
  have Hwa := Lib.hid hwa
  rw [← hwa] at x0 v0 C1 Hb1
  have c0 := x0.c0
  have c1 := x0.c1
  have c2 := x0.c2
  clear h hb0 hb1 hL hN hr hwa
  go_enter Tryz.func10, Tryz.ntmps10
  go_wp2_with fail
  rw [← Hwa.out]
  go_wp2_with fail
  refine C1.out.mono ?_
  rintro e w1 ⟨P, p, q, rfl, hSl, hB1⟩
  have y0 := x0.below x0.lt hB1
  have v1 := Wd.Bx.below v0 (Wd.Bx.lt v0) hB1
  have hb1 := Hb1.out.trans (hB1.mono Hb1.out.size)
  have hpl := hSl.len
  have hpc := hSl.cap
  have hpm := hSl.max
  unfold maxLen at hpm
  have hp1 : p ≤ 4096 := by omega
  have Hpl := Lib.hid hpl
  have HSl := Lib.hid hSl
  have HD1 := Lib.hid (HD.out.below hb1)
  have HB1 := Lib.hid hb1
  have HV1 := Lib.hid v1
  obtain ⟨⟨g0, g1, g2, g3⟩, f0, f1, f2, f3⟩ := Vc.four v1
  have hlv := Wd.Bx.lt v1
  clear c0 c1 c2 x0 v0 hB1 C1 hpl hSl hb1 h4 HD v1
  have hc1 := y0.c1
  have none_ : atv C i = (null, false) → ∃ k x s b r, (⟨k, x, s, b⟩, r) = atv C i ∧ Ending.returned (.tuple #[.agg #[.int .i64 0, .int .i64 0, .string ⟨#[]⟩, .bool false], .bool false]) = .returned (.tuple #[.agg #[.int .i64 k, .int .i64 x, .string s, .bool b], .bool r]) ∧ True := fun e => ⟨0, 0, ⟨#[]⟩, false, false, e.symm, rfl, trivial⟩
  have None := Lib.hid none_
  have hbs := Lib.hid (fun (k i : Int) (s : ByteArray) (b : Bool) => (Vc.below_setV (k := k) (i := i) (s := s) (b := b) HB1.out (show w.heap.size ≤ w.heap.size + 1 by omega)))
  clear none_
  by_cases hin : r = true ∧ 0 ≤ i ∧ i < (p : Int)
  case neg =>
    have e0 := Hz.out (fun q => by
      refine hin ⟨?_, q.1, by have := Hpl.out; omega⟩
      by_cases hv : Valid C
      · rw [Hr.out]; exact tr_yes hv
      · have := Hz0.out hv
        rw [this] at q
        simp at q
        omega)
    have HE := Lib.hid (None.out e0)
    clear e0 None
    have hcase : r = false ∨ (r = true ∧ i < 0) ∨ (r = true ∧ 0 ≤ i ∧ (p : Int) ≤ i) := by
      cases r
      · exact .inl rfl
      · by_cases q : i < 0
        · exact .inr (.inl ⟨rfl, q⟩)
        · exact .inr (.inr ⟨rfl, by omega, Classical.byContradiction fun q2 => hin ⟨rfl, by omega, by omega⟩⟩)
    clear hin
    rcases hcase with rfl | ⟨rfl, q1⟩ | ⟨rfl, q1, q2⟩
    all_goals (
      go_wp2_with fail
      (try simp only [Exit.inBlock, Exit.then])
      obtain ⟨k', x', s', b', r', e1, e2, -⟩ := HE.out
      refine bodyPost_ret (v := .tuple #[.agg #[.int .i64 0, .int .i64 0, .string ⟨#[]⟩, .bool false], .bool false]) ?_ rfl ⟨k', x', s', b', r', e1, e2, hbs.out 0 0 ⟨#[]⟩ false⟩
      rw [res_cell2 rfl]; go_simp)
  obtain ⟨rfl, hi0, hip⟩ := hin
  obtain ⟨k, rfl⟩ : ∃ k : Nat, i = (k : Int) := ⟨i.toNat, by omega⟩
  have hkL : k < L.length := by rw [← Hpl.out]; omega
  obtain ⟨b, o, hP, hbl, hc⟩ := HSl.out.rd k hkL
  subst hP
  obtain ⟨x, hx⟩ : ∃ x, x = L.getD k 0 := ⟨_, rfl⟩
  have hxm : x ∈ L := by
    rw [hx, List.getD_eq_getElem?_getD, List.getElem?_eq_getElem hkL]
    exact List.getElem_mem hkL
  obtain ⟨hx0, hxn⟩ := Hin.out x hxm
  have hT := Ha.out k hkL
  rw [← hx] at hc hT
  obtain ⟨z, hz⟩ : ∃ z : Nat, x = (z : Int) := ⟨x.toNat, by omega⟩
  subst hz
  rw [Int.toNat_natCast] at hT
  have hzn : z < C.dict.length := by rw [← Hn.out]; omega
  obtain ⟨e, f, hA, heB, d0, d1, d2, d3, hv1⟩ := HD1.out.cells (j := z) hzn rfl
  subst hA
  obtain ⟨y, hy⟩ : ∃ y, y = C.dict.getD z default := ⟨_, rfl⟩
  rw [← hy] at d0 d1 d2 d3 hT
  obtain ⟨vk, vi, vs, vb⟩ := y
  have HT := Lib.hid hT
  clear hx hxm hT hzn hy hv1 hkL None
  go_wp2_with fail
  go_region
  all_goals (
    go_wp2_with fail
    (try simp only [Exit.inBlock, Exit.then])
    refine bodyPost_ret (v := .tuple #[.agg #[.int .i64 vk, .int .i64 vi, .string vs, .bool vb], .bool true]) ?_ rfl ⟨vk, vi, vs, vb, true, HT.out.symm, rfl, ?_⟩
    · rw [res_cell2 rfl]; go_simp
    · have := hbs.out vk vi vs vb
      exact ⟨this.os, this.tape, this.output, this.size, this.block⟩)
end Cx
end Go.Proofs.YtnhgijlhnamolaaGreatDoor
