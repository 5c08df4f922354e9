/- What the reference functions of layer 3 do: the bytes of the kinds 0 and 1. What the reference function Encode of layer 3 does. What the reference functions of layer 4 that write do: differ, Sum, Seal. -/
import Derived.Test.YtaoeipehpakngaaGreatDoorPa43
import Derived.Test.YtaoeipehpakngaaGreatDoorPa27
import Derived.Test.YtaoeipehpakngaaGreatDoorPa05
import Derived.Test.YtaoeipehpakngaaGreatDoorPa31
import Derived.Test.YtaoeipehpakngaaGreatDoorPa09
namespace Go.Proofs.YtaoeipehpakngaaGreatDoor
set_option maxRecDepth 20000
open Go.RowKit
namespace Rc
open Nc
set_option maxHeartbeats 1000000 in
theorem refPlain_any (A : Option Addr) (m c : Nat) (l : List Int) (w : World) (hS : Wd.Sl w .i64 A m c l) (hm : m ≤ 100000) (hF : Rn.Fits l) :
    Calls Tryz.prog 58 #[.slice A m c] w (Wd.Out w .u8 (Rn.plain l)) := by
  obtain ⟨i0, hi, hz0, hz1, hz2⟩ := info_parts info_u8
  have hl := hS.len
  have Hl := Lib.hid hl
  have hcap := hS.cap
  have HF := Lib.hid hF
  clear hl hF
  go_enter Tryz.func58, Tryz.ntmps58
  go_wp2_with fail
  go_loopw [3, 4] (fun b i wr => ∃ (k : Nat) (bs : List Int), i = .int .i64 k ∧ k ≤ m ∧ Hid (bs = Rn.plain (l.take k)) ∧ wr.ownsRow w.heap.size 5 1 b bs.length (bs.map (Value.int .u8)) ∧ Below w.heap.size w wr) (fun _ i _ => m - (intOf i).toNat)
  case atStart => exact ⟨0, [], rfl, Nat.zero_le _, Lib.hid rfl, World.ownsRow_nil _ _ _ _, Below.refl _ _⟩
  case round =>
    obtain ⟨k, bs, rfl, hk, hbs, hown, hB⟩ := hrel
    by_cases hlt : k < m
    · have hkl : k < l.length := by rw [← Hl.out]; exact hlt
      obtain ⟨b, o, rfl, hbB, hcell0⟩ := hS.rd k hkl
      have hcell := (hB.cell (p := ⟨b, o + k, none⟩) hbB).trans hcell0
      have hx := Wd.fit_get HF.out k hkl
      have hpl := (Rn.plain_len (l.take k)).2
      have htk : (l.take k).length ≤ k := List.length_take_le _ _
      have hbl : bs.length ≤ 10 * k := by rw [hbs.out]; omega
      have hnx := Rn.plain_next l k hkl
      rw [← hbs.out] at hnx
      obtain ⟨x, hx'⟩ : ∃ x, x = l.getD k 0 := ⟨_, rfl⟩
      rw [← hx'] at hcell hx hnx
      obtain ⟨hx1, hx2⟩ := hx
      have hvl := (Nm.vd_len (Nm.zz x)).2
      have Hn := Lib.hid hnx
      have hsz := hB.size
      have i1 : (k : Int) < (m : Int) := by omega
      obtain ⟨wo, rfl⟩ : ∃ wo : World, wo = wr := ⟨_, rfl⟩
      clear hcell0 hx' hnx hpl htk
      go_wp2_with fail
      refine (refPut_any x wo hx1 hx2).mono ?_
      rintro e w1 ⟨A1, n1, c1, rfl, hS1, hB1⟩
      have hown1 := Wd.own_below hown hB1
      obtain ⟨ds, hds⟩ : ∃ ds, ds = Nm.vd (Nm.zz x) := ⟨_, rfl⟩
      rw [← hds] at hS1 hvl Hn
      have Hn1 := Lib.hid hS1.len
      have hz1' : w.heap.size ≤ w1.heap.size := Nat.le_trans hsz hB1.size
      clear hds hown
      go_wp2_with (at_builtin; refine Wd.wpList_app _ rfl (.tmp 11) (.tmp 16) 32 rfl w.heap.size 5 i0 _ .u8 1 Tryz.underlying32 hi hz0 hz1 hz2 rfl _ bs rfl hown1 w1.heap.size A1 n1 c1 ds rfl Hn1.out hS1.nil hS1.rd (by omega) (by unfold maxLen; omega) hz1' ?_; intro v' w2 hown2 hg2)
      have hB2 : Below w.heap.size w w2 := (hB.trans (hB1.mono hsz)).grown hg2 hz1' (fun g hg => (hown1.lt g hg).1)
      go_roundw
      case rel => exact ⟨k + 1, _, by go_num, by omega, Lib.hid Hn.out.symm, hown2, hB2⟩
      case measure => simp [intOf]; omega
    · go_wp2_with fail
      go_ret
      have e := hbs.out
      rw [List.take_of_length_le (by have := Hl.out; omega)] at e
      rw [e] at hown
      exact Wd.Out.of_own hown hB
set_option maxHeartbeats 1000000 in
theorem refRunB_any (A : Option Addr) (m c : Nat) (l : List Int) (w : World) (hS : Wd.Sl w .i64 A m c l) (hm : m ≤ 4096) (hF : Rn.Fits l) :
    Calls Tryz.prog 59 #[.slice A m c] w (Wd.Out w .u8 (Rn.runB (Rn.runs l))) := by
  obtain ⟨i0, hi, hz0, hz1, hz2⟩ := info_parts info_u8
  have hl := hS.len
  have hFR := Rn.runs_fit hF (by omega)
  have hrl := Rn.runs_len l
  have C1 := Lib.hid (refRuns_any A m c l w hS (by omega))
  generalize Rn.runs l = rs at *
  have HFR := Lib.hid hFR
  have hrl2 : rs.length ≤ 4096 := by omega
  clear hl hF hFR hrl
  go_enter Tryz.func59, Tryz.ntmps59
  go_wp2_with fail
  refine C1.out.mono ?_
  rintro e w0 ⟨A0, n0, c0, rfl, hSr, hB0⟩
  have hl := hSr.len
  have Hl := Lib.hid hl
  have hn0 : n0 ≤ 4096 := by omega
  have hcap := hSr.cap
  clear hl
  go_wp2_with fail
  go_loopw [4, 5] (fun b i wr => ∃ (k : Nat) (bs : List Int), i = .int .i64 k ∧ k ≤ n0 ∧ Hid (bs = Rn.runB (rs.take k)) ∧ wr.ownsRow w0.heap.size 5 1 b bs.length (bs.map (Value.int .u8)) ∧ Below w0.heap.size w0 wr) (fun _ i _ => n0 - (intOf i).toNat)
  case atStart => exact ⟨0, [], rfl, Nat.zero_le _, Lib.hid rfl, World.ownsRow_nil _ _ _ _, Below.refl _ _⟩
  case round =>
    obtain ⟨k, bs, rfl, hk, hbs, hown, hB⟩ := hrel
    by_cases hlt : k < n0
    · have hkl : k < rs.length := by rw [← Hl.out]; exact hlt
      obtain ⟨b, o, rfl, hbB, x0, x1⟩ := hSr.at_ k hlt
      have hm2 := HFR.out (rs.getD k (0, 0)) (by simp [List.getD, hkl])
      have hnx := Rn.runB_next rs k hkl
      rw [← hbs.out] at hnx
      have hpl := Rn.runB_len (rs.take k)
      have htk : (rs.take k).length ≤ k := List.length_take_le _ _
      have hbl : bs.length ≤ 20 * k := by rw [hbs.out]; omega
      obtain ⟨⟨x, q⟩, hxq⟩ : ∃ p, p = rs.getD k (0, 0) := ⟨_, rfl⟩
      rw [← hxq] at hm2 hnx x0 x1
      dsimp only at hm2 hnx x0 x1
      rw [← Nat.add_assoc] at x1
      have y0 := (hB.cell (p := ⟨b, o + k * 2, none⟩) hbB).trans x0
      obtain ⟨⟨hx1, hx2⟩, hq1, hq2⟩ := hm2
      have hv1 := (Nm.vd_len (Nm.zz x)).2
      have hv2 := (Nm.vd_len q).2
      have Hn := Lib.hid hnx
      have hsz := hB.size
      have i1 : (k : Int) < (n0 : Int) := by omega
      have c2 := fun w => refPutLen_any q w (by omega) (by omega)
      rw [if_neg (by omega)] at c2
      have C2 := Lib.hid c2
      have X1 := Lib.hid x1
      obtain ⟨wo, rfl⟩ : ∃ wo : World, wo = wr := ⟨_, rfl⟩
      clear hxq hnx hpl htk c2 x0 x1
      go_wp2_with fail
      refine (refPut_any x wo hx1 hx2).mono ?_
      rintro e w1 ⟨A1, n1, c1, rfl, hS1, hB1⟩
      have hown1 := Wd.own_below hown hB1
      obtain ⟨ds, hds⟩ : ∃ ds, ds = Nm.vd (Nm.zz x) := ⟨_, rfl⟩
      rw [← hds] at hS1 hv1 Hn
      have Hn1 := Lib.hid hS1.len
      have hW1 : Below w0.heap.size w0 w1 := hB.trans (hB1.mono hsz)
      have hz1' := hW1.size
      clear hds hown y0
      go_wp2_with (at_builtin; refine Wd.wpList_app _ rfl (.tmp 14) (.tmp 20) 32 rfl w0.heap.size 5 i0 _ .u8 1 Tryz.underlying32 hi hz0 hz1 hz2 rfl _ bs rfl hown1 w1.heap.size A1 n1 c1 ds rfl Hn1.out hS1.nil hS1.rd (by omega) (by unfold maxLen; omega) hz1' ?_; intro v' w2 hown2 hg2; have hB2 : Below w0.heap.size w0 w2 := hW1.grown hg2 hz1' (fun g hg => (hown1.lt g hg).1); have y1 := (hB2.cell (p := ⟨b, o + k * 2 + 1, none⟩) hbB).trans X1.out)
      refine (C2.out w2).mono ?_
      rintro e w3 ⟨A3, n3, c3, rfl, hS3, hB3⟩
      have hsz2 := hB2.size
      have hW3 : Below w0.heap.size w0 w3 := hB2.trans (hB3.mono hsz2)
      have hown3 := Wd.own_below hown2 hB3
      obtain ⟨es, hes⟩ : ∃ es, es = Nm.vd q := ⟨_, rfl⟩
      rw [← hes] at hS3 hv2 Hn
      have Hn3 := Lib.hid hS3.len
      have hz3 := hW3.size
      clear hes y1 hown2 hown1 hg2
      have hal : (bs ++ ds).length ≤ 20 * k + 10 := by rw [List.length_append]; omega
      go_wp2_with (at_builtin; refine Wd.wpList_app _ rfl (.tmp 22) (.tmp 28) 32 rfl w0.heap.size 5 i0 _ .u8 1 Tryz.underlying32 hi hz0 hz1 hz2 rfl _ (bs ++ ds) rfl hown3 w3.heap.size A3 n3 c3 es rfl Hn3.out hS3.nil hS3.rd (by omega) (by unfold maxLen; omega) hz3 ?_; intro v4 w4 hown4 hg4)
      have hB4 : Below w0.heap.size w0 w4 := hW3.grown hg4 hz3 (fun g hg => (hown3.lt g hg).1)
      go_roundw
      case rel => exact ⟨k + 1, (bs ++ ds) ++ es, by go_num, by omega, Lib.hid (by rw [Hn.out, List.append_assoc]), hown4, hB4⟩
      case measure => simp [intOf]; omega
    · go_wp2_with fail
      go_ret
      have e := hbs.out
      rw [List.take_of_length_le (by have := Hl.out; omega)] at e
      rw [e] at hown
      exact Wd.Out.of_own hown (hB0.trans (hB.mono hB0.size))
end Rc
end Go.Proofs.YtaoeipehpakngaaGreatDoor
namespace Go.Proofs.YtaoeipehpakngaaGreatDoor
open Go.RowKit
namespace Rc
open Nc
def sv (a : Nat → Option Addr) (n c : Nat → Nat) (k : Nat) : Value := .slice (a k) (n k) (c k)
def BodI (W : World) (g : Nat) (l : List Int) (a : Nat → Option Addr) (n c : Nat → Nat) : Prop :=
  Wd.Bx W g 32 #[sv a n c 0, sv a n c 1, sv a n c 2] ∧ ∀ k, k < 3 → Wd.Sl W .u8 (a k) (n k) (c k) (Rn.body l k)
theorem BodI.below {W W' : World} {g : Nat} {l : List Int} {a : Nat → Option Addr} {n c : Nat → Nat} (h : BodI W g l a n c) (hb : Below W.heap.size W W') : BodI W' g l a n c :=
  ⟨h.1.below h.1.lt hb, fun k hk => (h.2 k hk).below hb⟩
theorem BodI.cell {W : World} {g : Nat} {l : List Int} {a : Nat → Option Addr} {n c : Nat → Nat} (h : BodI W g l a n c) (k : Nat) (hk : k < 3) : W.cell? ⟨g, k, none⟩ = some (.slice (a k) (n k) (c k)) := by
  rw [h.1.cell]
  match k, hk with
  | 0, _ => rfl
  | 1, _ => rfl
  | 2, _ => rfl
def pick3 {α : Type} (x y z : α) : Nat → α | 0 => x | 1 => y | _ => z
set_option maxRecDepth 100000 in
set_option maxHeartbeats 2000000 in
theorem refEncode_ok (A : Option Addr) (m c : Nat) (l : List Int) (w : World) (hS : Wd.Sl w .i64 A m c l) (hm : m ≤ 4096) (hF : Rn.Fits l) :
    Calls Tryz.prog 25 #[.slice A m c] w (Wd.Out2 w .u8 (Rn.enc l) 0) := by
  obtain ⟨i0, hi, hz0, hz1, hz2⟩ := info_parts info_u8
  have hl := hS.len
  have Hl := Lib.hid hl
  have hcap := hS.cap
  have HF := Lib.hid hF
  have hdm : decide ((4096 : Int) < (m : Int)) = false := by simp; omega
  have hdl := Rn.deltas_len l
  have c1 := fun w hS => refPlain_any A m c l w hS (by omega) hF
  have c2 := fun w hS => refRunB_any A m c l w hS hm hF
  have c3 := fun w hS => refDeltas_any A m c l w hS (by omega) hF
  have c4 := fun A m c w hS hm => refPlain_any A m c (Rn.deltas l) w hS hm (Rn.deltas_fits l)
  have hd2 : (Rn.deltas l).length ≤ 100000 := by omega
  have C1 := Lib.hid c1
  have C2 := Lib.hid c2
  have C3 := Lib.hid c3
  have C4 := Lib.hid c4
  clear hl hF hdl c1 c2 c3 c4
  go_enter Tryz.func25, Tryz.ntmps25
  go_wp2_with fail
  refine (C1.out w hS).mono ?_
  rintro e w1 ⟨A1, n1, k1, rfl, hS1, hB1⟩
  have hSw1 := hS.below hB1
  clear hS
  go_wp2_with fail
  refine (C2.out w1 hSw1).mono ?_
  rintro e w2 ⟨A2, n2, k2, rfl, hS2, hB2⟩
  have hSw2 := hSw1.below hB2
  have hS12 := hS1.below hB2
  have hW2 : Below w.heap.size w w2 := hB1.trans (hB2.mono hB1.size)
  clear hSw1 hS1 hB1 hB2
  go_wp2_with fail
  refine (C3.out w2 hSw2).mono ?_
  rintro e w3 ⟨A3, n3, k3, rfl, hS3, hB3⟩
  have hn3 : n3 ≤ 100000 := by rw [hS3.len]; exact hd2
  have hS13 := hS12.below hB3
  have hS23 := hS2.below hB3
  have hW3 : Below w.heap.size w w3 := hW2.trans (hB3.mono hW2.size)
  clear hSw2 hS12 hS2 hW2 hB3
  go_wp2_with fail
  refine (C4.out A3 n3 k3 w3 hS3 hn3).mono ?_
  rintro e w4 ⟨A4, n4, k4, rfl, hS4, hB4⟩
  have hS14 := hS13.below hB4
  have hS24 := hS23.below hB4
  have hW4 : Below w.heap.size w w4 := hW3.trans (hB4.mono hW3.size)
  clear hS13 hS23 hS3 hW3 hB4
  have hI : BodI (w4.alloc (.cells #[.slice A1 n1 k1, .slice A2 n2 k2, .slice A4 n4 k4] 32)) w4.heap.size l (pick3 A1 A2 A4) (pick3 n1 n2 n4) (pick3 k1 k2 k4) := by
    refine ⟨Wd.Bx.new _ _ _, fun k hk => ?_⟩
    have hb : Below w4.heap.size w4 (w4.alloc (.cells #[.slice A1 n1 k1, .slice A2 n2 k2, .slice A4 n4 k4] 32)) := (Below.refl _ _).alloc (Nat.le_refl _) _
    match k, hk with
    | 0, _ => exact hS14.below hb
    | 1, _ => exact hS24.below hb
    | 2, _ => exact hS4.below hb
  have hW5 : Below w.heap.size w (w4.alloc (.cells #[.slice A1 n1 k1, .slice A2 n2 k2, .slice A4 n4 k4] 32)) := hW4.alloc hW4.size _
  generalize pick3 A1 A2 A4 = af at *
  generalize pick3 n1 n2 n4 = nf at *
  generalize pick3 k1 k2 k4 = cf at *
  obtain ⟨G, hG⟩ : ∃ G, G = w4.heap.size := ⟨_, rfl⟩
  rw [← hG] at hI
  go_wp2_with fail
  rw [← hG]
  generalize w4.alloc (.cells #[.slice A1 n1 k1, .slice A2 n2 k2, .slice A4 n4 k4] 32) = w5 at *
  clear hS14 hS24 hS4 hW4 hG C1 C2 C3 C4
  go_loopw [5, 6] (fun b i wr => ∃ (k j q : Nat), i = .int .i64 k ∧ b = .int .i64 j ∧ 1 ≤ k ∧ k ≤ 3 ∧ j < 3 ∧ Hid (j = Rn.bi l k) ∧ wr = w5.drewN q) (fun _ i _ => 3 - (intOf i).toNat)
  case atStart => exact ⟨1, 0, 0, rfl, rfl, by omega, by omega, by omega, Lib.hid (Rn.bi_one l).symm, rfl⟩
  case round =>
    obtain ⟨k, j, q, rfl, rfl, hk1, hk3, hj3, hj, rfl⟩ := hrel
    by_cases hlt : k < 3
    · have ck := hI.cell k hlt
      have cj := hI.cell j hj3
      have hE : Rn.bi l (k + 1) = if nf k < nf j then k else j := by
        rw [(hI.2 k hlt).len, (hI.2 j hj3).len, Rn.bi, ← hj.out]
      have HE := Lib.hid hE
      have hI' := Lib.hid hI
      have i1 : (k : Int) < 3 := by omega
      have i2 : (j : Int) < 3 := by omega
      have i3 : (0 : Int) ≤ (k : Int) := by omega
      have i4 : (0 : Int) ≤ (j : Int) := by omega
      have bk : nf k ≤ 9223372036854775807 := by have h := hI.2 k hlt; have h1 := h.cap; have h2 := h.max; unfold maxLen at h2; omega
      have bj : nf j ≤ 9223372036854775807 := by have h := hI.2 j hj3; have h1 := h.cap; have h2 := h.max; unfold maxLen at h2; omega
      clear hE hI
      by_cases hq : nf k < nf j
      · have hdq : decide ((nf k : Int) < (nf j : Int)) = true := by simpa using hq
        have hdq2 : decide (nf k < nf j) = true := by simpa using hq
        go_wp2_with fail
        go_quiet (fail)
        go_wp2_with fail
        go_roundw
        case rel => exact ⟨k + 1, k, _, by go_num, rfl, by omega, by omega, hlt, Lib.hid (by rw [HE.out, if_pos hq]), rfl⟩
        case measure => simp [intOf]; omega
      · have hdq : decide ((nf k : Int) < (nf j : Int)) = false := by simpa using hq
        have hdq2 : decide (nf k < nf j) = false := by simpa using hq
        go_wp2_with fail
        go_quiet (fail)
        go_wp2_with fail
        go_roundw
        case rel => exact ⟨k + 1, j, _, by go_num, rfl, by omega, by omega, hj3, Lib.hid (by rw [HE.out, if_neg hq]), rfl⟩
        case measure => simp [intOf]; omega
    · obtain rfl : k = 3 := by omega
      have hwj : IntKind.u8.wrap (j : Int) = (j : Int) := by
        match j, hj3 with
        | 0, _ => rfl
        | 1, _ => rfl
        | 2, _ => rfl
      have cj := hI.cell j hj3
      have hbj := (hI.2 j hj3)
      have hbl := Rn.body_len l j
      have c5 := fun w => refPutLen_any (m : Int) w (by omega) (by omega)
      rw [if_neg (show ¬ (m : Int) < 0 by omega)] at c5
      have C5 := Lib.hid c5
      have hvl := Nm.vd_len (m : Int)
      have HI := Lib.hid hI
      have i2 : (j : Int) < 3 := by omega
      have hb6 : Below w5.heap.size w5 (w5.drewN q) := Wd.below_drewN (Below.refl _ _) q
      rw [← Hl.out] at hbl
      obtain ⟨w6, hw6⟩ : ∃ w6, w6 = w5.drewN q := ⟨_, rfl⟩
      rw [← hw6] at hb6 ⊢
      have hW6 : Below w.heap.size w w6 := hW5.trans (hb6.mono hW5.size)
      have hI6 := hI.below hb6
      have HI6 := Lib.hid hI6
      clear c5 hI cj hbj hw6 hI6
      go_wp2_with fail
      have own0 : (w6.alloc (.cells #[.int .u8 (j : Int)] 5)).ownsRow w6.heap.size 5 1 (.slice (some ⟨w6.heap.size, 0, none⟩) 1 1) [(j : Int)].length ([(j : Int)].map (Value.int .u8)) := World.ownsRow_lit w6 _ 1 (Nat.le_refl _) (by simp [maxLen]) rfl
      have hba : Below w6.heap.size w6 (w6.alloc (.cells #[.int .u8 (j : Int)] 5)) := (Below.refl _ _).alloc (Nat.le_refl _) _
      refine (C5.out _).mono ?_
      rintro e w7 ⟨A7, n7, c7, rfl, hS7, hB7⟩
      have own7 := Wd.own_below own0 hB7
      have hb7 : Below w6.heap.size w6 w7 := hba.trans (hB7.mono hba.size)
      have Hn7 := Lib.hid hS7.len
      have hz7 := hb7.size
      obtain ⟨vs, hvs⟩ : ∃ vs, vs = Nm.vd (m : Int) := ⟨_, rfl⟩
      rw [← hvs] at hS7 hvl
      have Hvs := Lib.hid hvs
      obtain ⟨hv1, hv2⟩ := hvl
      clear hvs own0 hba hB7
      go_wp2_with (first | (at_builtin; refine Wd.wpList_app _ rfl (.tmp 38) (.tmp 41) 32 rfl w6.heap.size 5 i0 _ .u8 1 Tryz.underlying32 hi hz0 hz1 hz2 rfl _ [(j : Int)] rfl own7 w7.heap.size A7 n7 c7 vs rfl hS7.len hS7.nil hS7.rd (by simp; omega) (by simp [maxLen]; omega) hz7 ?_; intro v8 w8 own8 hg8; have hb8 : Below w6.heap.size w6 w8 := hb7.grown hg8 hz7 (fun g hg => (own7.lt g hg).1); have hI8 := HI6.out.below hb8; have cj := hI8.cell j hj3; have hS8 := hI8.2 j hj3; have HI8 := Lib.hid hI8; clear hI8; have hz8 := hb8.size; have hl8 : (Rn.body l j).length ≤ 100000 := by omega) | (at_builtin; refine Wd.wpList_app _ rfl (.tmp 43) (.tmp 47) 32 rfl w6.heap.size 5 i0 _ .u8 1 Tryz.underlying32 hi hz0 hz1 hz2 rfl v8 ([(j : Int)] ++ vs) rfl own8 w8.heap.size (af j) (nf j) (cf j) (Rn.body l j) rfl hS8.len hS8.nil hS8.rd (by simp; omega) (by simp [maxLen]; omega) hz8 ?_; intro v9 w9 own9 hg9))
      have hb9 : Below w6.heap.size w6 w9 := hb8.grown hg9 hz8 (fun g hg => (own8.lt g hg).1)
      obtain ⟨A9, n9, c9, rfl, hS9⟩ := Wd.Sl.of_own own9
      go_ret2
      refine ⟨A9, n9, c9, rfl, ?_, hW6.trans (hb9.mono hW6.size)⟩
      have eb : ([(j : Int)] ++ vs) ++ Rn.body l j = Rn.enc l := by
        unfold Rn.enc Rn.block
        rw [Hvs.out, Hl.out, ← hj.out]
        rfl
      rw [eb] at hS9
      exact hS9
end Rc
namespace Fc
open Nc
theorem xor_divP (a b k : Nat) : (a ^^^ b) / 2 ^ k = a / 2 ^ k ^^^ b / 2 ^ k := by
  have := Nat.shiftRight_xor_distrib (a := a) (b := b) (i := k)
  simpa [Nat.shiftRight_eq_div_pow] using this
theorem xor_low (a b k : Nat) : (a ^^^ b) % 2 ^ (k + 1) = (a ^^^ b) % 2 ^ k + (if a / 2 ^ k % 2 = b / 2 ^ k % 2 then 0 else 2 ^ k) := by
  rw [Nat.mod_pow_succ, xor_divP, Fr.xor_mod]
  by_cases h : a / 2 ^ k % 2 = b / 2 ^ k % 2
  · rw [if_pos h, show (a / 2 ^ k + b / 2 ^ k) % 2 = 0 by omega]
    simp
  · rw [if_neg h, show (a / 2 ^ k + b / 2 ^ k) % 2 = 1 by omega]
    simp
set_option maxHeartbeats 1000000 in
theorem differ_any (a b : Nat) (w : World) (ha : a < 4294967296) (hb : b < 4294967296) :
    Calls Tryz.prog 105 #[.int .i64 (a : Int), .int .i64 (b : Int)] w fun e w' => e = .returned (.int .i64 ((a ^^^ b : Nat) : Int)) ∧ w = w' := by
  go_enter Tryz.func105, Tryz.ntmps105
  go_wp2
  go_loop [0, 1, 5, 6, 7] (fun va vb vn vp vk => ∃ (k x y n p : Nat), va = .int .i64 (x : Int) ∧ vb = .int .i64 (y : Int) ∧ vn = .int .i64 (n : Int) ∧ vp = .int .i64 (p : Int) ∧ vk = .int .i64 (k : Int) ∧ k ≤ 32 ∧ x < 4294967296 ∧ y < 4294967296 ∧ n < 4294967296 ∧ p ≤ 4294967296 ∧ Hid (x = a / 2 ^ k ∧ y = b / 2 ^ k ∧ p = 2 ^ k ∧ n = (a ^^^ b) % 2 ^ k)) (fun _ _ _ _ i => 32 - (intOf i).toNat)
  case atStart => exact ⟨0, a, b, 0, 1, rfl, rfl, rfl, rfl, rfl, Nat.zero_le _, ha, hb, by decide, by decide, Lib.hid ⟨by simp, by simp, by simp, by simp [Nat.mod_one]⟩⟩
  case round =>
    obtain ⟨k, x, y, n, p, rfl, rfl, rfl, rfl, rfl, hk, hx, hy, hn, hp, H⟩ := hrel
    by_cases hlt : k < 32
    · have hkI : (k : Int) < 32 := by omega
      have hp2 : p * 2 ≤ 4294967296 := by
        rw [H.out.2.2.1, ← Nat.pow_succ]
        exact Nat.pow_le_pow_right (by decide) (show k + 1 ≤ 32 by omega)
      have hpk : 2 ^ k * 2 = 2 ^ (k + 1) := (Nat.pow_succ ..).symm
      by_cases q : x % 2 = y % 2
      · have hq : (((x : Int) % 2) != ((y : Int) % 2)) = false := by
          rw [bne_eq_false_iff_eq]; omega
        have hn' : (a ^^^ b) % 2 ^ (k + 1) = n := by
          rw [xor_low, if_pos (by rw [← H.out.1, ← H.out.2.1]; exact q), H.out.2.2.2]
          rfl
        have Hn := Lib.hid hn'
        have Hp := Lib.hid hpk
        clear q hn' hpk
        go_wp2
        go_round
        case rel =>
          refine ⟨k + 1, x / 2, y / 2, n, p * 2, by go_num, by go_num, by go_num, by go_num, by go_num, by omega, by omega, by omega, by omega, by omega, Lib.hid ⟨?_, ?_, ?_, Hn.out.symm⟩⟩
          · rw [H.out.1, Nat.div_div_eq_div_mul, Hp.out]
          · rw [H.out.2.1, Nat.div_div_eq_div_mul, Hp.out]
          · rw [H.out.2.2.1, Hp.out]
        case measure => simp [intOf]; omega
      · have hq : (((x : Int) % 2) != ((y : Int) % 2)) = true := by
          rw [bne_iff_ne]; omega
        have hn' : (a ^^^ b) % 2 ^ (k + 1) = n + p := by
          rw [xor_low, if_neg (by rw [← H.out.1, ← H.out.2.1]; exact q), H.out.2.2.2, H.out.2.2.1]
        have hnl : n + p < 4294967296 := by
          rw [← hn']
          exact Nat.lt_of_le_of_lt (Nat.mod_le _ _) (Fr.xor_lt (n := 32) ha hb)
        have Hn := Lib.hid hn'
        have Hp := Lib.hid hpk
        clear q hn' hpk
        go_wp2
        go_round
        case rel =>
          refine ⟨k + 1, x / 2, y / 2, n + p, p * 2, by go_num, by go_num, by go_num, by go_num, by go_num, by omega, by omega, by omega, by omega, by omega, Lib.hid ⟨?_, ?_, ?_, Hn.out.symm⟩⟩
          · rw [H.out.1, Nat.div_div_eq_div_mul, Hp.out]
          · rw [H.out.2.1, Nat.div_div_eq_div_mul, Hp.out]
          · rw [H.out.2.2.1, Hp.out]
        case measure => simp [intOf]; omega
    · have hk32 : k = 32 := by omega
      have hn' : n = a ^^^ b := by
        rw [H.out.2.2.2, hk32]
        exact Nat.mod_eq_of_lt (Fr.xor_lt (n := 32) ha hb)
      have Hn := Lib.hid hn'
      clear hn' hk32
      go_wp2
      go_ret
      rw [← Hn.out]
      exact ⟨rfl, rfl⟩
set_option maxHeartbeats 1000000 in
theorem refSum_any (A : Option Addr) (n c : Nat) (b : List Int) (w : World) (hS : Wd.Sl w .u8 A n c b) (hB : Nm.Byt b) :
    Calls Tryz.prog 62 #[.slice A n c] w fun e w' => e = .returned (.int .i64 (Fr.sum b)) ∧ w = w' := by
  obtain ⟨hl, hc, hx, hA, hr⟩ := hS
  unfold maxLen at hx
  have Hl := Lib.hid hl
  have HB := Lib.hid hB
  clear hl hB
  go_enter Tryz.func62, Tryz.ntmps62
  go_wp2
  go_loopw [3, 4] (fun r i wr => ∃ (k x : Nat), i = .int .i64 k ∧ r = .int .i64 (x : Int) ∧ k ≤ n ∧ x < 4294967296 ∧ Hid (Fr.reg 4294967295 (b.take k) = x) ∧ wr = w) (fun _ i _ => n - (intOf i).toNat)
  case atStart => exact ⟨0, 4294967295, rfl, rfl, Nat.zero_le _, by decide, Lib.hid rfl, rfl⟩
  case round =>
    obtain ⟨k, x, rfl, rfl, hk, hxl, hR, rfl⟩ := hrel
    by_cases hlt : k < n
    · have hlt' : k < b.length := by rw [← Hl.out]; exact hlt
      have hkI : (k : Int) < (n : Int) := by omega
      obtain ⟨B, o, rfl, _, hcell⟩ := hr k hlt'
      obtain ⟨q0, q1⟩ := byt_get HB.out k hlt'
      have hnx := take_next b k hlt'
      obtain ⟨y, hy⟩ : ∃ y, y = b.getD k 0 := ⟨_, rfl⟩
      rw [← hy] at hcell q0 q1 hnx
      obtain ⟨z, rfl⟩ := Int.eq_ofNat_of_zero_le q0
      have Hn := Lib.hid hnx
      have hz : z < 4294967296 := by omega
      clear hy hnx hA hr
      go_wp2_with fail
      refine (differ_any x z wr hxl hz).mono ?_
      rintro e w1 ⟨rfl, rfl⟩
      have hxz : x ^^^ z < 4294967296 := Fr.xor_lt (n := 32) hxl hz
      obtain ⟨y0, hy0⟩ : ∃ y0, y0 = x ^^^ z := ⟨_, rfl⟩
      rw [← hy0] at hxz ⊢
      have Hy0 := Lib.hid hy0
      clear hy0
      go_wp2_with fail
      go_loopw [3, 5] (fun r j wq => ∃ (i s : Nat), j = .int .i64 (i : Int) ∧ r = .int .i64 (s : Int) ∧ i ≤ 8 ∧ s < 4294967296 ∧ Hid (Fr.stN (8 - i) s = Fr.stN 8 y0) ∧ wq = wr) (fun _ j _ => 8 - (intOf j).toNat)
      case atStart => exact ⟨0, y0, rfl, rfl, Nat.zero_le _, hxz, Lib.hid rfl, rfl⟩
      case round =>
        obtain ⟨i, s, rfl, rfl, hi, hs, hst, rfl⟩ := hrel
        by_cases hi8 : i < 8
        · have hiI : (i : Int) < 8 := by omega
          rcases Nat.mod_two_eq_zero_or_one s with q | q
          · have hq : (((s : Int) % 2) == 1) = false := by rw [beq_eq_false_iff_ne]; omega
            have hs2 : Fr.st s = s / 2 := if_neg (by omega)
            have Hs2 := Lib.hid hs2
            clear q hs2
            go_wp2_with fail
            go_roundw
            case rel =>
              refine ⟨i + 1, s / 2, by go_num, by go_num, by omega, by omega, Lib.hid ?_, trivial⟩
              have := hst.out
              rw [show 8 - i = (8 - (i + 1)) + 1 by omega] at this
              rw [← Hs2.out]
              exact this
            case measure => simp [intOf]; omega
          · have hq : (((s : Int) % 2) == 1) = true := by rw [beq_iff_eq]; omega
            have hs2 : Fr.st s = s / 2 ^^^ 3988292384 := if_pos q
            have Hs2 := Lib.hid hs2
            have C := Lib.hid fun w => differ_any (s / 2) 3988292384 w (by omega) (by decide)
            clear q hs2
            go_wp2_with fail
            refine (C.out _).mono ?_
            rintro e w1 ⟨rfl, rfl⟩
            go_wp2_with fail
            go_roundw
            case rel =>
              refine ⟨i + 1, Fr.st s, by go_num, by rw [Hs2.out], by omega, Fr.st_lt hs, Lib.hid ?_, trivial⟩
              have := hst.out
              rw [show 8 - i = (8 - (i + 1)) + 1 by omega] at this
              exact this
            case measure => simp [intOf]; omega
        · have hiI : ¬ (i : Int) < 8 := by omega
          have hs8 : s = Fr.stN 8 y0 := by
            have := hst.out
            rw [show 8 - i = 0 by omega] at this
            exact this
          have Hs8 := Lib.hid hs8
          clear hs8 hst
          go_wp2_with fail
          go_roundw
          case rel =>
            refine ⟨k + 1, s, by go_num, rfl, by omega, hs, Lib.hid ?_, trivial⟩
            rw [Hn.out, Fr.reg_snoc, hR.out, Hs8.out, Hy0.out]
            rfl
          case measure => simp [intOf]; omega
    · have hkn : k = b.length := by rw [← Hl.out]; omega
      have hsm : Fr.sum b = 4294967295 - x := by
        have h := hR.out
        rw [hkn, List.take_length] at h
        unfold Fr.sum
        rw [h]
      have hkI : ¬ (k : Int) < (n : Int) := by omega
      have Hs := Lib.hid hsm
      clear hkn hsm hA hr
      go_wp2_with fail
      go_ret
      refine ⟨?_, rfl⟩
      have e : ((Fr.sum b : Nat) : Int) = 4294967295 - (x : Int) := by rw [Hs.out]; omega
      rw [e]
      rfl
set_option maxRecDepth 100000 in
set_option maxHeartbeats 1000000 in
theorem refSeal_own (A : Option Addr) (n c : Nat) (b : List Int) (w : World) (hS : Wd.Sl w .u8 A n c b) (hB : Nm.Byt b) (hn : n ≤ 65536) :
    Calls Tryz.prog 27 #[.slice A n c] w (Wd.Out2 w .u8 (Fr.frame b) 0) := by
  obtain ⟨i0, hi, hz0, hz1, hz2⟩ := info_parts info_u8
  have hl := hS.len
  have hvl := Nm.vd_len (b.length : Int)
  have Hl := Lib.hid hl
  have C2 := fun w' => refPutLen_own (n : Int) w' (by omega) (by omega)
  have C3 := fun w' (hb : Below w.heap.size w w') => refSum_any A n c b w' (hS.below hb) hB
  have hfr : Fr.frame b = (Nm.vd (n : Int) ++ b) ++ Fr.le4 (Fr.sum b) := by rw [hl]; rfl
  rw [← hl] at hvl
  have HC2 := Lib.hid C2
  have HC3 := Lib.hid C3
  have Hfr := Lib.hid hfr
  have HS := Lib.hid hS
  have hcn := hS.cap
  have hmx := hS.max
  have hnil := Lib.hid hS.nil
  have hsl := Fr.sum_lt b
  unfold maxLen at hmx
  clear C2 C3 hl hfr hS hB
  generalize Nm.vd (n : Int) = vs at *
  generalize Fr.sum b = s at *
  go_enter Tryz.func27, Tryz.ntmps27
  go_wp2_with fail
  refine (HC2.out w).mono ?_
  rintro e w3 ⟨v3, rfl, hO3, hb3⟩
  have hS3 := HS.out.below hb3
  go_wp2_with (at_builtin; refine Wd.wpList_app _ rfl (.tmp 12) (.tmp 13) 32 rfl w.heap.size 5 i0 _ .u8 1 Tryz.underlying32 hi hz0 hz1 hz2 rfl v3 vs rfl hO3 w3.heap.size A n c b rfl Hl.out hnil.out hS3.rd (by rw [← Hl.out]; omega) (by rw [← Hl.out]; unfold maxLen; omega) hb3.size ?_; intro v4 w4 hO4 hg4)
  have hb4 : Below w.heap.size w w4 := hb3.grown hg4 hb3.size fun g hg => (hO3.lt g hg).1
  clear hO3 hg4 hb3 hS3 HC2
  refine (HC3.out w4 hb4).mono ?_
  rintro e w5 ⟨rfl, rfl⟩
  have hvb : (vs ++ b).length ≤ 65546 := by rw [List.length_append, ← Hl.out]; omega
  generalize vs ++ b = us at *
  clear HC3
  go_wp2_with fail
  go_loopw [4, 5, 6] (fun v r i wr => ∃ (k x : Nat), i = .int .i64 (k : Int) ∧ k ≤ 4 ∧ r = .int .i64 (x : Int) ∧ x < 4294967296 ∧ Hid (x = s / 256 ^ k) ∧ wr.ownsRow w.heap.size 5 1 v (us ++ (Fr.le4 s).take k).length ((us ++ (Fr.le4 s).take k).map (Value.int .u8)) ∧ Below w.heap.size w wr) (fun _ _ i _ => 4 - (intOf i).toNat)
  case atStart => exact ⟨0, s, rfl, Nat.zero_le _, rfl, by omega, Lib.hid (by simp), by simpa using hO4, hb4⟩
  case round =>
    clear hO4 hb4
    obtain ⟨k, x, rfl, hk, rfl, hx, hX, hO, hb⟩ := hrel
    have hsz := hb.size
    by_cases hlt : k < 4
    · have hkI : (k : Int) < 4 := by omega
      have hul : (us ++ (Fr.le4 s).take k).length ≤ 65550 := by rw [List.length_append, List.length_take]; omega
      have hnx : us ++ (Fr.le4 s).take (k + 1) = (us ++ (Fr.le4 s).take k) ++ [((x % 256 : Nat) : Int)] := by
        rw [take_next (Fr.le4 s) k hlt, le4_get s k hlt, ← hX.out, List.append_assoc]
      have hx2 : x / 256 = s / 256 ^ (k + 1) := by rw [hX.out, Nat.div_div_eq_div_mul, Nat.pow_succ]
      have Hn := Lib.hid hnx
      have Hx2 := Lib.hid hx2
      clear hnx hx2
      generalize us ++ (Fr.le4 s).take k = ts at *
      go_wp2_with (at_builtin; refine Wd.wpList_app _ rfl (.tmp 21) (.tmp 25) 32 rfl w.heap.size 5 i0 _ .u8 1 Tryz.underlying32 hi hz0 hz1 hz2 rfl _ ts rfl (hO.alloc _) (wr.heap.size + 1) _ 1 1 [((x % 256 : Nat) : Int)] rfl rfl (by simp) (Wd.Rd.lit wr .u8 [((x % 256 : Nat) : Int)] _ _ rfl) (by simp; omega) (by simp [maxLen]; omega) (by simp; omega) ?_; intro v' w1 hown hg1)
      go_roundw
      case rel =>
        refine ⟨k + 1, x / 256, by go_num, by omega, by go_num, by omega, Lib.hid Hx2.out, ?_, (hb.alloc hsz _).grown hg1 (by simp; omega) fun g hg => (hO.lt g hg).1⟩
        rw [Hn.out]
        exact hown
      case measure => simp [intOf]; omega
    · have hk4 : (Fr.le4 s).take k = Fr.le4 s := List.take_of_length_le (by rw [Fr.le4_len]; omega)
      have hkI : ¬ (k : Int) < 4 := by omega
      rw [hk4, ← Hfr.out] at hO
      clear hk4
      go_wp2_with fail
      go_ret2
      obtain ⟨A6, n6, c6, rfl, hS6⟩ := Wd.Sl.of_own hO
      exact ⟨A6, n6, c6, rfl, hS6, hb⟩
end Fc
end Go.Proofs.YtaoeipehpakngaaGreatDoor
