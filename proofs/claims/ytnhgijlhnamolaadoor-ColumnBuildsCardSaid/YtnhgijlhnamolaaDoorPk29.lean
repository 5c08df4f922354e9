/- The chapter's example holds: the function awake of layer 10's statements answers true. What few of layer 10's statements lets by: texts that a program can hold. Package bitset: Or. Package bitset: Not. Package bitset: Count; math/bits' OnesCount64. What the condition on the package-level variable gives a walk: the table of math/bits, cell by cell. From an argument as the statement reads it to the words of this seat: a slice of integers. -/
import Derived.Laws.CopyOwn
import Derived.OpenShut
import Derived.LaidHandle
import Derived.Stop.Joined
import Derived.ProofKit
import Derived.Test.YtnhgijlhnamolaaDoorPk08
import Derived.Test.YtnhgijlhnamolaaDoorPk26
import Derived.Test.YtnhgijlhnamolaaDoorPk27
import Derived.Test.YtnhgijlhnamolaaDoorPk28
import Derived.Test.YtnhgijlhnamolaaDoorPk11
import Derived.Test.YtnhgijlhnamolaaDoorPk18
import Derived.Test.YtnhgijlhnamolaaDoorPk17
import Derived.Test.YtnhgijlhnamolaaDoorRows
import Derived.Test.YtnhgijlhnamolaaDoorPk02
namespace Go.Proofs.YtnhgijlhnamolaaDoor
set_option maxRecDepth 20000
open Go.RowKit
namespace Cx
open Va (Vl May ord null)
open Sc (tr tr_yes tr_no tr_iff)
open Co
open Bi (I64 Gv Tab hd hd_all)
open Bw (St)
theorem vI_v1 (i : Int) (h0 : -9223372036854775808 ≤ i) (h1 : i ≤ 9223372036854775807) : Wd.V1 (vI i) := Sx.v1_of ⟨ex_may i, h0, h1⟩
theorem vs_lit (w : World) (L : List Vl) (cs : Array Value) (n : Nat) (hc : cs = (Wd.flatV L).toArray) (hn : n = L.length) (hm : n ≤ maxLen) (h1 : ∀ j, j < L.length → Wd.V1 (L.getD j default)) : Wd.Vs (w.alloc (.cells cs 48)) (some ⟨w.heap.size, 0, none⟩) n n L := by
  subst hc
  exact Wd.RowV.vs (Wd.Bx.new w 48 (Wd.flatV L).toArray) n hn hm h1
theorem n_any (i : Int) (w : World) :
    Calls Tryd.prog 23 #[.int .i64 i] w fun e w' => e = .returned (.agg #[.int .i64 1, .int .i64 i, .string ⟨#[]⟩, .bool false]) ∧ Below w.heap.size w w' := by
  go_enter Tryd.func23, Tryd.ntmps23
  go_wp2_with fail
  (try simp only [Exit.inBlock, Exit.then])
  refine bodyPost_ret (v := .agg #[.int .i64 1, .int .i64 i, .string ⟨#[]⟩, .bool false]) ?_ rfl ⟨rfl, ?_⟩
  · rw [Vc.res_cell1 rfl]; go_simp
  · repeat' (first | exact Below.refl _ _ | refine Below.setCell ?_ (by simp) _ | refine Below.alloc ?_ (by simp <;> omega) _)
theorem st_below {w w' : World} {A : Option Addr} {n c : Nat} {X : List Int} (h : St w A n c X) (hb : Below w.heap.size w w') : St w' A n c X := by
  obtain ⟨L, hS, hw, ht, e⟩ := h
  exact ⟨L, hS.below hb, hw, ht, e⟩
theorem v1_73 : ∀ j, j < [vI 3, vI 7].length → Wd.V1 ([vI 3, vI 7].getD j default) := by
  intro j hj
  match j, hj with
  | 0, _ => exact vI_v1 3 (by omega) (by omega)
  | 1, _ => exact vI_v1 7 (by omega) (by omega)
theorem v1_737 : ∀ j, j < [vI 7, vI 3, vI 7].length → Wd.V1 ([vI 7, vI 3, vI 7].getD j default) := by
  intro j hj
  match j, hj with
  | 0, _ => exact vI_v1 7 (by omega) (by omega)
  | 1, _ => exact vI_v1 3 (by omega) (by omega)
  | 2, _ => exact vI_v1 7 (by omega) (by omega)
theorem sz_737 : ∀ x ∈ [vI 7, vI 3, vI 7], x.s.size ≤ maxLen := by
  intro x hx
  simp only [List.mem_cons, List.not_mem_nil, or_false] at hx
  unfold maxLen
  rcases hx with rfl | rfl | rfl <;> decide
set_option maxHeartbeats 8000000 in
theorem awake_any (w : World) (hT : Tab w) : Calls Tryd.prog 7 #[] w fun e w' => e = .returned (.bool true) ∧ Below w.heap.size w w' := by
  have HT := Lib.hid hT
  have N3 := Lib.hid fun w => n_any 3 w
  have N7 := Lib.hid fun w => n_any 7 w
  have CB := Lib.hid fun (w : World) => (by have := cbuild_any _ 3 3 [vI 7, vI 3, vI 7] _ (vs_lit w [vI 7, vI 3, vI 7] #[.int .i64 1, .int .i64 7, .string ⟨#[]⟩, .bool false, .int .i64 1, .int .i64 3, .string ⟨#[]⟩, .bool false, .int .i64 1, .int .i64 7, .string ⟨#[]⟩, .bool false] 3 rfl rfl (by decide) v1_737) sz_737; rw [ex_build] at this; exact this : Calls Tryd.prog 9 #[.slice (some ⟨w.heap.size, 0, none⟩) 3 3] (w.alloc (.cells #[.int .i64 1, .int .i64 7, .string ⟨#[]⟩, .bool false, .int .i64 1, .int .i64 3, .string ⟨#[]⟩, .bool false, .int .i64 1, .int .i64 7, .string ⟨#[]⟩, .bool false] 48)) (OutC _ (exC, 0)))
  clear hT
  go_enter Tryd.func7, Tryd.ntmps7
  go_wp2_with fail
  refine (N7.out _).mono ?_
  rintro e w1 ⟨rfl, hB1⟩
  go_wp2_with fail
  refine (N3.out _).mono ?_
  rintro e w2 ⟨rfl, hB2⟩
  go_wp2_with fail
  refine (N7.out _).mono ?_
  rintro e w3 ⟨rfl, hB3⟩
  have hb2 := hB1.trans (hB2.mono hB1.size)
  have hb3 := hb2.trans (hB3.mono hb2.size)
  have Hb3 := Lib.hid hb3
  clear hB1 hB2 hB3 hb2 hb3
  go_wp2_with fail
  refine (CB.out _).mono ?_
  rintro e w4 ⟨A, n, c, B, m, d, he, hCl, hB4⟩
  replace he : e = .returned (.tuple #[.agg #[.int .i64 3, .slice A n c, .slice B m d], .int .i64 0]) := he
  subst he
  have hb4 : Below w.heap.size w w4 := (Hb3.out.alloc Hb3.out.size _).trans (hB4.mono ((Hb3.out.alloc Hb3.out.size _).size))
  obtain rfl : n = 2 := hCl.dict.len
  obtain rfl : m = 1 := hCl.ids.len
  have x0 := Cb.new w4 3 A 2 c B 1 d
  have hk := (Below.refl w4.heap.size w4).alloc (Nat.le_refl _) (.cells #[.int .i64 3, .slice A 2 c, .slice B 1 d] 27)
  have hb5 := hb4.trans (hk.mono hb4.size)
  have hCl5 := hCl.below hk
  have hc2 := hCl.dict.cap
  have hd2 := hCl.ids.cap
  obtain ⟨w5, hw5⟩ : ∃ w5, w5 = w4.alloc (.cells #[.int .i64 3, .slice A 2 c, .slice B 1 d] 27) := ⟨_, rfl⟩
  obtain ⟨b, hbq⟩ : ∃ b, b = w4.heap.size := ⟨_, rfl⟩
  rw [← hw5, ← hbq] at x0
  rw [← hw5] at hb5 hCl5
  have Hw5 := Lib.hid hw5
  have Hbq := Lib.hid hbq
  have c0 := x0.c0
  have c1 := x0.c1
  have c2 := x0.c2
  have hbl := x0.lt
  have HCl := Lib.hid hCl5
  have Hb5 := Lib.hid hb5
  clear hB4 hb4 hk hCl hCl5 hb5 hw5 hbq CB
  go_wp2_with fail
  rw [← Hw5.out, ← Hbq.out]
  go_upto_region 2 with fail
  go_cut [3] (fun u wz => u = .bool true ∧ Below w5.heap.size w5 wz)
  case first =>
    have hb := (Below.refl w5.heap.size w5).drew
    have z10 : w5.drew.cell? ⟨b, 1, none⟩ = some (.slice A 2 c) := c1
    go_region_held3 (fun w' => w'.cell? ⟨b, 1, none⟩ = some (.slice A 2 c)) (first | with_reducible exact z10 | exact ((hb.alloc hb.size _).cell (p := ⟨b, 1, none⟩) hbl).trans c1) (first
      | (go_at_call 23; (with_reducible refine (N3.out _).mono ?_); rintro e wz ⟨rfl, hBz⟩; have hb := hb.trans (hBz.mono hb.size); have z10 := (hb.cell (p := ⟨b, 1, none⟩) hbl).trans c1)
      | (go_at_call 23; (with_reducible refine (N7.out _).mono ?_); rintro e wz ⟨rfl, hBz⟩; have hb := hb.trans (hBz.mono hb.size); have z10 := (hb.cell (p := ⟨b, 1, none⟩) hbl).trans c1)
      | (go_at_call 12; refine (Sx.sameV_any A 2 c [vI 3, vI 7] _ 2 2 [vI 3, vI 7] _ (HCl.out.dict.below (hb.alloc hb.size _)) (vs_lit _ [vI 3, vI 7] _ 2 rfl rfl (by decide) v1_73)).mono ?_; rintro e wz ⟨rfl, hBz⟩; have hb := (hb.alloc hb.size _).trans (hBz.mono (hb.alloc hb.size _).size); have z10 := (hb.cell (p := ⟨b, 1, none⟩) hbl).trans c1))
    all_goals (
      go_wp2_with fail
      go_meet
      exact ⟨by rw [tr_yes trivial], hb⟩)
  case rest =>
    obtain ⟨rfl, hbc⟩ := hcut
    have hbl6 := Nat.lt_of_lt_of_le hbl hbc.size
    have y0 := x0.below hbl hbc
    have Hbc := Lib.hid hbc
    clear c0 c1 c2
    have c0 := y0.c0
    have c1 := y0.c1
    have c2 := y0.c2
    have hCl6 := HCl.out.below hbc
    have HCl6 := Lib.hid hCl6
    have hbk := Hb5.out.trans (hbc.mono Hb5.out.size)
    have Hbk := Lib.hid hbk
    clear hbc hCl6 hbk N3 N7
    go_wp2_with fail
    refine (Nc.same_yes B _ 1 1 d 1 [5] [5] _ (HCl6.out.ids.below ((Below.refl _ _).alloc (Nat.le_refl _) _)) (Wd.Sl.lit wc .u8 [5] 5 _ 1 rfl rfl (by decide)) rfl).mono ?_
    rintro e w7 ⟨rfl, hB7⟩
    have hx7 : Below wc.heap.size wc w7 := ((Below.refl _ wc).alloc (Nat.le_refl _) _).trans (hB7.mono (by simp))
    have y7 := y0.below hbl6 hx7
    have hl7 := y7.lt
    have HCl7 := Lib.hid (HCl6.out.below hx7)
    have Hb7 := Lib.hid (Hbk.out.trans (hx7.mono Hbk.out.size))
    clear c0 c1 c2 hB7 hx7
    have c0 := y7.c0
    have c1 := y7.c1
    have c2 := y7.c2
    have CR := Lib.hid (by have := range_any A 2 c B 1 d exC 1 2 w7 HCl7.out (by omega) (by omega); rw [ex_rng] at this; exact this : Calls Tryd.prog 17 #[.agg #[.int .i64 3, .slice A 2 c, .slice B 1 d], .int .i64 1, .int .i64 2] w7 (Gv St w7 [0, 2]))
    go_wp2_with fail
    refine CR.out.mono ?_
    rintro e w8 ⟨A8, n8, c8, rfl, hS8, hB8⟩
    have y8 := y7.below hl7 hB8
    have hl8 := y8.lt
    have HCl8 := Lib.hid (HCl7.out.below hB8)
    have Hb8 := Lib.hid (Hb7.out.trans (hB8.mono Hb7.out.size))
    have CL := Lib.hid (by have := Bw.list_of hS8 (HT.out.below Hb8.out) (-1); rw [hd_all] at this; exact this : Calls Tryd.prog 19 #[.agg #[.slice A8 n8 c8], .int .i64 (-1)] w8 (Wd.Out w8 .i64 [0, 2]))
    clear hB8 hS8 c0 c1 c2
    go_wp2_with fail
    refine CL.out.mono ?_
    rintro e w9 ⟨A9, n9, c9, rfl, hL9, hB9⟩
    have y9 := y8.below hl8 hB9
    have hl9 := y9.lt
    have HCl9 := Lib.hid (HCl8.out.below hB9)
    have Hb9 := Lib.hid (Hb8.out.trans (hB9.mono Hb8.out.size))
    obtain rfl : n9 = 2 := hL9.len
    have HL9 := Lib.hid hL9
    clear hB9 hL9
    go_wp2_with fail
    refine (Nc.ints_yes A9 _ 2 2 c9 2 [0, 2] [0, 2] _ (HL9.out.below ((Below.refl _ _).alloc (Nat.le_refl _) _)) (Wd.Sl.lit w9 .i64 [0, 2] 3 _ 2 rfl rfl (by decide)) rfl).mono ?_
    rintro e w10 ⟨rfl, hB10⟩
    have hx10 : Below w9.heap.size w9 w10 := ((Below.refl _ w9).alloc (Nat.le_refl _) _).trans (hB10.mono (by simp))
    have y10 := y9.below hl9 hx10
    have c0 := y10.c0
    have c1 := y10.c1
    have c2 := y10.c2
    have CM := Lib.hid (by have := cmay_any A 2 c B 1 d exC w10 (HCl9.out.below hx10) (by omega) (by omega); rw [tr_yes ex_valid] at this; exact this : Calls Tryd.prog 16 #[.agg #[.int .i64 3, .slice A 2 c, .slice B 1 d]] w10 fun e w' => e = .returned (.bool true) ∧ Below w10.heap.size w10 w')
    have Hb10 := Lib.hid (Hb9.out.trans (hx10.mono Hb9.out.size))
    clear hB10 hx10
    go_wp2_with fail
    refine CM.out.mono ?_
    rintro e w11 ⟨rfl, hB11⟩
    have Hb11 := Lib.hid (Hb10.out.trans (hB11.mono Hb10.out.size))
    go_wp2_with fail
    go_ret
    exact ⟨rfl, Hb11.out⟩
end Cx
end Go.Proofs.YtnhgijlhnamolaaDoor
namespace Go.Proofs.YtnhgijlhnamolaaDoor
set_option maxRecDepth 20000
open Go.RowKit
namespace Cx
open Va (Vl May ord null)
theorem few_size {l : List Vl} (h : FewC l) : ∀ x ∈ l, x.s.size ≤ maxLen := by
  intro x hx
  obtain ⟨i, hi, rfl⟩ := List.getElem_of_mem hx
  have := h.2 i hi
  rw [List.getD_eq_getElem?_getD, List.getElem?_eq_getElem hi, Option.getD_some] at this
  unfold maxLen
  omega
end Cx
end Go.Proofs.YtnhgijlhnamolaaDoor
namespace Go.Proofs.YtnhgijlhnamolaaDoor
set_option maxRecDepth 20000
open Go.RowKit
namespace Bw
open Bs Bx Bi
/-- A row of the call's own that has no spare room, as its block holds it. -/
theorem ow_full {w : World} {B g z : Nat} {L : List Nat} (h : Ow w B (.slice (some ⟨g, 0, none⟩) z z) L) (hz : L.length = z) : w.heap[g]? = some (.cells ((nat L).map (Value.int .u64)).toArray 78) := by
  subst hz
  rcases h.2 with ⟨hq, _⟩ | ⟨g', cap', cur, hq, hb, hg, h1, h2, h3, h4⟩
  · cases hq
  · simp only [Value.slice.injEq, Option.some.injEq, Addr.mk.injEq, and_true, true_and] at hq
    obtain ⟨rfl, rfl⟩ := hq
    rw [hg, ← h4, List.take_of_length_le (by simp [h3])]
theorem full_ow {w : World} {B g z : Nat} {L : List Nat} (hg : w.heap[g]? = some (.cells ((nat L).map (Value.int .u64)).toArray 78)) (hB : B ≤ g) (hz : L.length = z) (hm : z ≤ maxLen) : Ow w B (.slice (some ⟨g, 0, none⟩) z z) L := by
  subst hz
  exact ⟨by simp [nat_len], .inr ⟨g, _, _, rfl, hB, hg, Nat.le_refl _, hm, by simp [nat_len], by rw [List.take_of_length_le (by simp [nat_len])]⟩⟩
theorem splice_pad (L : List Nat) (z : Nat) (_h : L.length ≤ z) : splice ((nat (List.replicate z 0)).map (Value.int .u64)) 0 ((nat L).map (Value.int .u64)) = (nat (pad L z)).map (Value.int .u64) := by
  unfold splice pad
  rw [← nat_app, List.map_append, nat_rep, nat_rep]
  simp [nat_len]
theorem cpos {w : World} {A : Option Addr} {n c : Nat} {L : List Nat} {o : Addr} (h : Wd.Sl w .u64 A n c (nat L)) (hp : 0 < ((nat L).map (Value.int .u64)).length) : some o = some o ∧ ∃ ad, A = some ad ∧ ∀ j v, ((nat L).map (Value.int .u64))[j]? = some v → w.cell? (ad.add j) = some v := by
  refine ⟨rfl, ?_⟩
  obtain ⟨b, o, rfl, hb, -⟩ := h.rd 0 (by simpa using hp)
  refine ⟨_, rfl, fun j v hv => ?_⟩
  rw [List.getElem?_map] at hv
  by_cases q : j < (nat L).length
  · obtain ⟨b', o', e, -, hc⟩ := h.rd j q
    cases e
    rw [List.getElem?_eq_getElem q] at hv
    cases hv
    rw [Addr.add_lit, hc]
    simp [List.getD, List.getElem?_eq_getElem q]
  · rw [List.getElem?_eq_none (by omega)] at hv
    cases hv
end Bw
end Go.Proofs.YtnhgijlhnamolaaDoor
namespace Go.Proofs.YtnhgijlhnamolaaDoor
set_option maxRecDepth 20000
open Go.RowKit
namespace Bw
open Bs Bx Bi
theorem Ow.at {w : World} {B n c : Nat} {A : Option Addr} {L : List Nat} (h : Ow w B (.slice A n c) L) (hL : 0 < L.length) : ∃ g, A = some ⟨g, 0, none⟩ ∧ B ≤ g := by
  obtain ⟨g, c', e, hB, -⟩ := h.shape hL
  cases e
  exact ⟨g, rfl, hB⟩
theorem Ow.len {w : World} {B n c : Nat} {A : Option Addr} {L : List Nat} (h : Ow w B (.slice A n c) L) : n = L.length ∧ n ≤ c ∧ c ≤ maxLen := by
  obtain ⟨A', n', c', e, hS⟩ := h.sl
  cases e
  exact ⟨by rw [hS.len, nat_len], hS.cap, hS.max⟩
end Bw
end Go.Proofs.YtnhgijlhnamolaaDoor
namespace Go.Proofs.YtnhgijlhnamolaaDoor
set_option maxRecDepth 20000
open Go.RowKit
namespace Bw
open Bs Bx Bi
theorem and_i64 (a : Nat) (ha : a < 9223372036854775808) : bits .and .i64 (a : Int) 127 = ((a % 128 : Nat) : Int) := by
  have h1 : (BitVec.ofInt 64 (a : Int)).toNat = a := by
    rw [BitVec.ofInt_natCast, BitVec.toNat_ofNat]; exact Nat.mod_eq_of_lt (by omega)
  have h2 : (BitVec.ofInt 64 (127 : Int)).toNat = 127 := by decide
  show IntKind.i64.wrap ((BitVec.ofInt 64 (a : Int) &&& BitVec.ofInt 64 (127 : Int)).toNat : Int) = _
  rw [BitVec.toNat_and, h1, h2, show (127 : Nat) = 2 ^ 7 - 1 by rfl, Nat.and_two_pow_sub_one_eq_mod, IntKind.wrap_i64]
  omega
set_option maxHeartbeats 2000000 in
theorem ones_any (x : Nat) (hx : x < 18446744073709551616) (w : World) :
    Calls Tryd.prog 43 #[.int .u64 (x : Int)] w fun e w' => e = .returned (.int .i64 (pop x : Int)) ∧ w' = w := by
  obtain ⟨x1, x2, x3, x4, x5, x6, h1, l1, h2, l2, l3, h3, h4, l4, h5, l5, h6, l6, hp⟩ := ones_all x hx
  have a1 := bits_and_u64_nat (x / 2) 6148914691236517205 (by omega) (by omega)
  have a2 := bits_and_u64_nat x 6148914691236517205 (by omega) (by omega)
  have a3 := bits_and_u64_nat (x1 / 4) 3689348814741910323 (by omega) (by omega)
  have a4 := bits_and_u64_nat x1 3689348814741910323 (by omega) (by omega)
  have a5 := bits_and_u64_nat (x2 / 16 + x2) 1085102592571150095 (by omega) (by omega)
  have a6 := and_i64 x6 (by omega)
  obtain ⟨p1, hp1⟩ : ∃ p, p = x / 2 &&& 6148914691236517205 := ⟨_, rfl⟩
  obtain ⟨p2, hp2⟩ : ∃ p, p = x &&& 6148914691236517205 := ⟨_, rfl⟩
  obtain ⟨p3, hp3⟩ : ∃ p, p = x1 / 4 &&& 3689348814741910323 := ⟨_, rfl⟩
  obtain ⟨p4, hp4⟩ : ∃ p, p = x1 &&& 3689348814741910323 := ⟨_, rfl⟩
  rw [← hp1, ← hp2] at h1
  rw [← hp3, ← hp4] at h2
  rw [← hp1] at a1
  rw [← hp2] at a2
  rw [← hp3] at a3
  rw [← hp4] at a4
  rw [← h3] at a5
  rw [hp] at a6
  have w1 : IntKind.u64.wrap ((p1 : Int) + (p2 : Int)) = (x1 : Int) := by rw [IntKind.wrap_u64]; omega
  have w2 : IntKind.u64.wrap ((p3 : Int) + (p4 : Int)) = (x2 : Int) := by rw [IntKind.wrap_u64]; omega
  have w3 : IntKind.u64.wrap ((x2 : Int) / 16 + (x2 : Int)) = ((x2 / 16 + x2 : Nat) : Int) := by rw [IntKind.wrap_u64]; omega
  have w4 : IntKind.u64.wrap ((x3 : Int) + (x3 : Int) / 256) = (x4 : Int) := by rw [IntKind.wrap_u64]; omega
  have w5 : IntKind.u64.wrap ((x4 : Int) + (x4 : Int) / 65536) = (x5 : Int) := by rw [IntKind.wrap_u64]; omega
  have w6 : IntKind.u64.wrap ((x5 : Int) + (x5 : Int) / 4294967296) = (x6 : Int) := by rw [IntKind.wrap_u64]; omega
  have w7 : IntKind.i64.wrap (x6 : Int) = (x6 : Int) := by rw [IntKind.wrap_i64]; omega
  obtain ⟨r, hr⟩ : ∃ r, r = pop x := ⟨_, rfl⟩
  rw [← hr] at a6 ⊢
  clear hp1 hp2 hp3 hp4 h1 h2 h3 h4 h5 h6 l1 l2 l3 l4 l5 l6 hp hr
  simp only [Int.natCast_ediv, Int.natCast_add, Int.cast_ofNat_Int] at a1 a2 a3 a4 a5 w3
  go_enter Tryd.func43, Tryd.ntmps43
  go_wp2_with fail
  go_ret
  exact ⟨rfl, rfl⟩
theorem sum_next (L : List Nat) (q : Nat) (h : q < L.length) : ((L.take (q + 1)).map pop).sum = ((L.take q).map pop).sum + pop (L.getD q 0) := by
  rw [List.take_succ_eq_append_getElem h, List.map_append, List.sum_append]
  simp [List.getD, h]
set_option maxHeartbeats 4000000 in
theorem count_any (A : Option Addr) (n c : Nat) (X : List Int) (w : World) (hX : St w A n c X) :
    Calls Tryd.prog 18 #[.agg #[.slice A n c]] w fun e w' => e = .returned (.int .i64 (X.length : Int)) ∧ Below w.heap.size w w' := by
  obtain ⟨L, hS, hL, tL, rfl⟩ := hX
  have hb0 := (Below.refl w.heap.size w).alloc (Nat.le_refl _) (.cells #[.slice A n c] 42)
  have c0 := box1 w A n c
  have hcap := hS.cap
  have hmx := hS.max
  unfold maxLen at hmx
  have hn : n = L.length := by rw [hS.len, nat_len]
  have hn1 : n ≤ 1024 := by rw [hn]; exact hL.1
  have HS := Lib.hid (hS.below hb0)
  have Hn := Lib.hid hn
  have HL := Lib.hid hL
  have Hb := Lib.hid hb0
  have Ones := Lib.hid fun x hx w => ones_any x hx w
  obtain ⟨T, hT⟩ : ∃ T : Nat → Nat, T = fun q => ((L.take q).map pop).sum := ⟨_, rfl⟩
  have HT1 := Lib.hid (show ∀ q, q < n → T (q + 1) = T q + pop (L.getD q 0) from fun q hq => by rw [hT]; exact sum_next L q (by omega))
  have HT2 := Lib.hid (show ∀ q, q ≤ n → T q ≤ 65536 from fun q hq => by rw [hT]; have := sum_le (L.take q); simp only [List.length_take] at this; show ((L.take q).map pop).sum ≤ 65536; omega)
  have HT3 := Lib.hid (show T n = (lstW L).length by rw [hT, lstW_len, hn]; show ((L.take L.length).map pop).sum = _; rw [List.take_length])
  have HT0 := Lib.hid (show T 0 = 0 by rw [hT]; rfl)
  rw [← HT3.out]
  clear hS hn hL tL hT hb0
  go_enter Tryd.func18, Tryd.ntmps18
  go_wp2_with fail
  go_loopw [3, 5, 9] (fun s u j wr => ∃ q : Nat, j = .int .i64 q ∧ q ≤ n ∧ s = .int .i64 (T q : Int) ∧ wr = w.alloc (.cells #[.slice A n c] 42)) (fun _ _ j _ => n - (intOf j).toNat)
  case atStart => exact ⟨0, rfl, Nat.zero_le _, by rw [HT0.out]; rfl, rfl⟩
  case round =>
    obtain ⟨q, rfl, hk, rfl, rfl⟩ := hrel
    by_cases hlt : q < n
    · have hkI : (q : Int) < n := by omega
      have hq0 : (0 : Int) ≤ (q : Int) := by omega
      obtain ⟨b1, o1, hA1, hb1, hc1⟩ := HS.out.rd q (by rw [nat_len, ← Hn.out]; omega)
      subst hA1
      rw [nat_getD] at hc1
      have C := Lib.hid (Ones.out (L.getD q 0) (HL.out.2 q))
      have h1 := HT1.out q hlt
      have h2 := HT2.out q hk
      have h3 := HT2.out (q + 1) (by omega)
      obtain ⟨x, hx⟩ : ∃ x, x = L.getD q 0 := ⟨_, rfl⟩
      rw [← hx] at hc1 C h1
      obtain ⟨p, hp⟩ : ∃ p, p = pop x := ⟨_, rfl⟩
      rw [← hp] at C h1
      have e1 : IntKind.i64.wrap ((T q : Int) + (p : Int)) = (T (q + 1) : Int) := by rw [IntKind.wrap_i64]; omega
      have e2 : (T q : Int) + (p : Int) = (T (q + 1) : Int) := by omega
      obtain ⟨y, hy⟩ : ∃ y, y = T (q + 1) := ⟨_, rfl⟩
      rw [← hy] at e1 e2
      have hy1 : y ≤ 65536 := by omega
      have Hy := Lib.hid hy
      clear hx hp h1 h2 h3 hy
      go_wp2_with fail
      refine (C.out _).mono ?_
      rintro e w2 ⟨rfl, rfl⟩
      go_wp2_with fail
      go_roundw
      case rel => exact ⟨q + 1, by go_num, by omega, by rw [← Hy.out], trivial⟩
      case measure => simp [intOf]; omega
    · have hkI : ¬ (q : Int) < n := by omega
      obtain rfl : q = n := by omega
      go_wp2_with fail
      go_ret
      exact ⟨rfl, Hb.out⟩
end Bw
end Go.Proofs.YtnhgijlhnamolaaDoor
namespace Go.Proofs.YtnhgijlhnamolaaDoor
set_option maxRecDepth 20000
open Go.ChangeShapes Go.WideShapes Go.RowKit
namespace Bw
open Bs Bx Bi
theorem gT : Tryd.prog.globalNamed "math/bits.deBruijn64tab" = some 0 := by kernel_rfl
theorem tT : (Tryd.prog.globals[0]?).map (·.type) = some 121 := by kernel_rfl
theorem c8 : Tryd.prog.cellsOf 5 = 1 := by kernel_rfl
theorem tab_of_laid {W : World} (h : laidMetH Tryd.prog [("math/bits.deBruijn64tab", Rows.laid_math_bits_deBruijn64tab)] W) : Tab W := by
  have h' : laidMet Tryd.prog [("math/bits.deBruijn64tab", Rows.laid_math_bits_deBruijn64tab)] W := h
  obtain ⟨ps, ⟨g, t, cs, fuel, p, q, hg, ht, hv, hd, _, _⟩, _, _⟩ := h'
  obtain rfl := Option.some.inj (gT.symm.trans hg)
  obtain rfl := Option.some.inj (tT.symm.trans ht)
  obtain ⟨xs, m, rfl, hx, hl, hn, hi⟩ := DataW.trod_array Tryd.underlying121 hd
  have hm : xs.map (·.1) = Lib.deBruijn64tab.map fun (k : Nat) => (DataW.lit (.int .u8 (k : Int)) : DataW Unit) := by
    have e := (congrArg Prod.fst hx).symm
    exact DataW.agg.inj e
  intro j hj
  have h1 := hi j hj
  have hjx : j < xs.length := by rw [hn]; exact hj
  rw [List.getElem?_eq_getElem hjx, c8, Nat.mul_one] at h1
  obtain ⟨k, e1, e2, _⟩ := DataW.trod_int Tryd.underlying5 h1
  have e3 := congrArg (fun l : List (DataW Unit) => l[j]?) hm
  simp only [List.getElem?_map, List.getElem?_eq_getElem hjx, Option.map_some, e2] at e3
  have hjt : j < Lib.deBruijn64tab.length := hj
  rw [List.getElem?_eq_getElem hjt, Option.map_some] at e3
  simp only [Option.some.injEq, DataW.lit.injEq, Lit.int.injEq, true_and] at e3
  rw [World.var?_cell gT hv j, List.getD_eq_getElem?_getD, List.getElem?_eq_getElem hjt, Option.getD_some, ← e3]
  have e4 := congrArg (fun l : List Value => l[0]?) e1
  simp only [List.getElem?_cons_zero] at e4
  rw [List.getElem?_take, List.getElem?_drop] at e4
  simpa using e4
/-- What the rows list of the package-level variables. -/
abbrev ls : List (String × DataW Unit) := [("math/bits.deBruijn64tab", Rows.laid_math_bits_deBruijn64tab)]
end Bw
end Go.Proofs.YtnhgijlhnamolaaDoor
namespace Go.Proofs.YtnhgijlhnamolaaDoor
set_option maxRecDepth 20000
open Go.RowKit Go.ChangeShapes Go.WideShapes
namespace Wd
theorem open_sl {H : Type} {enc : TypeId × Value → H} {P : Program} {W : World} {r : Reach} {base0 base : Nat} {spare : Nat → Bool} {held : Bool} {t e : TypeId} {k : IntKind} {v : Value} {d : DataW H} {ps : List MemPlace}
    (ht : P.underlying t = some (.slice e)) (he : P.underlying e = some (.int k)) (hc : P.cellsOf e = 1) (hok : Value.okWide P W r base0 t v) (h : DataW.Trod enc P W base spare held t v d ps) :
    ∃ A n c xs, v = .slice A n c ∧ Sl W k A n c xs ∧ Fits k xs := by
  obtain ⟨A, n, c, rfl⟩ := okWide_slice ht hok
  obtain ⟨fuel, hf⟩ := h
  rcases open_ints ht he hc hf with ⟨hcs, _⟩ | ⟨x, l, cc, zs, hcs, _, hl, hm, hz, _, hcell, hwz⟩
  · simp [Value.cells] at hcs
    obtain ⟨rfl, rfl, rfl⟩ := hcs
    exact ⟨none, 0, 0, [], rfl, Sl.none_ _ _, fun x hx => by simp at hx⟩
  · simp [Value.cells] at hcs
    obtain ⟨rfl, rfl, rfl⟩ := hcs
    have hlz : n ≤ zs.length := by rw [hz]; split <;> omega
    refine ⟨_, _, _, zs.take n, rfl, ⟨by simp [hlz], hl, hm, by simp, ?_⟩, fun y hy => hwz y (List.mem_of_mem_take hy)⟩
    refine Rd.take (fun j hj => ?_) n
    obtain ⟨b, o, rfl, h1⟩ := ints_at hcell (by omega)
    have h2 := h1 j hj
    exact ⟨b, o, rfl, World.block_lt_of_cell? W ⟨b, o + j, none⟩ h2, h2⟩
end Wd
end Go.Proofs.YtnhgijlhnamolaaDoor
