/- What the reference functions of layer 3 do: the bytes of the kinds 0 and 1. -/
import Derived.Test.YtejhnmahmnbmkaaRunRefB
namespace Go.Proofs.Ytejhnmahmnbmkaa
open Go.RowKit
namespace Rc
open Nc

set_option maxHeartbeats 1000000 in
theorem refPlain_any (A : Option Addr) (m c : Nat) (l : List Int) (w : World) (hS : Wd.Sl w .i64 A m c l) (hm : m ≤ 100000) (hF : Rn.Fits l) :
    Calls Try.prog 30 #[.slice A m c] w (Wd.Out w .u8 (Rn.plain l)) := by
  obtain ⟨i0, hi, hz0, hz1, hz2⟩ := info_parts info_u8
  have hl := hS.len
  have Hl := Lib.hid hl
  have hcap := hS.cap
  have HF := Lib.hid hF
  clear hl hF
  go_enter Try.func30, Try.ntmps30
  go_wp2_with fail
  go_loopw [3, 4] (fun b i wr => ∃ (k : Nat) (bs : List Int), i = .int .i64 k ∧ k ≤ m ∧ Hid (bs = Rn.plain (l.take k)) ∧ wr.ownsRow w.heap.size 5 1 b bs.length (bs.map (Value.int .u8)) ∧ Below w.heap.size w wr) (fun _ i _ => m - (intOf i).toNat)
  case atStart => exact ⟨0, [], rfl, Nat.zero_le _, Lib.hid rfl, World.ownsRow_nil _ _ _ _, Below.refl _ _⟩
  case round =>
    obtain ⟨k, bs, rfl, hk, hbs, hown, hB⟩ := hrel
    by_cases hlt : k < m
    · have hkl : k < l.length := by rw [← Hl.out]; exact hlt
      obtain ⟨b, o, rfl, hbB, hcell0⟩ := hS.rd k hkl
      have hcell := (hB.cell (p := ⟨b, o + k, none⟩) hbB).trans hcell0
      have hx := Wd.fit_get HF.out k hkl
      have hpl := (Rn.plain_len (l.take k)).2
      have htk : (l.take k).length ≤ k := List.length_take_le _ _
      have hbl : bs.length ≤ 10 * k := by rw [hbs.out]; omega
      have hnx := Rn.plain_next l k hkl
      rw [← hbs.out] at hnx
      obtain ⟨x, hx'⟩ : ∃ x, x = l.getD k 0 := ⟨_, rfl⟩
      rw [← hx'] at hcell hx hnx
      obtain ⟨hx1, hx2⟩ := hx
      have hvl := (Nm.vd_len (Nm.zz x)).2
      have Hn := Lib.hid hnx
      have hsz := hB.size
      have i1 : (k : Int) < (m : Int) := by omega
      obtain ⟨wo, rfl⟩ : ∃ wo : World, wo = wr := ⟨_, rfl⟩
      clear hcell0 hx' hnx hpl htk
      go_wp2_with fail
      refine (refPut_any x wo hx1 hx2).mono ?_
      rintro e w1 ⟨A1, n1, c1, rfl, hS1, hB1⟩
      have hown1 := Wd.own_below hown hB1
      obtain ⟨ds, hds⟩ : ∃ ds, ds = Nm.vd (Nm.zz x) := ⟨_, rfl⟩
      rw [← hds] at hS1 hvl Hn
      have Hn1 := Lib.hid hS1.len
      have hz1' : w.heap.size ≤ w1.heap.size := Nat.le_trans hsz hB1.size
      clear hds hown
      go_wp2_with (at_builtin; refine Wd.wpList_app _ rfl (.tmp 11) (.tmp 16) 33 rfl w.heap.size 5 i0 _ .u8 1 Try.underlying33 hi hz0 hz1 hz2 rfl _ bs rfl hown1 w1.heap.size A1 n1 c1 ds rfl Hn1.out hS1.nil hS1.rd (by omega) (by unfold maxLen; omega) hz1' ?_; intro v' w2 hown2 hg2)
      have hB2 : Below w.heap.size w w2 := (hB.trans (hB1.mono hsz)).grown hg2 hz1' (fun g hg => (hown1.lt g hg).1)
      go_roundw
      case rel => exact ⟨k + 1, _, by go_num, by omega, Lib.hid Hn.out.symm, hown2, hB2⟩
      case measure => simp [intOf]; omega
    · go_wp2_with fail
      go_ret
      have e := hbs.out
      rw [List.take_of_length_le (by have := Hl.out; omega)] at e
      rw [e] at hown
      exact Wd.Out.of_own hown hB

set_option maxHeartbeats 1000000 in
theorem refRunB_any (A : Option Addr) (m c : Nat) (l : List Int) (w : World) (hS : Wd.Sl w .i64 A m c l) (hm : m ≤ 4096) (hF : Rn.Fits l) :
    Calls Try.prog 31 #[.slice A m c] w (Wd.Out w .u8 (Rn.runB (Rn.runs l))) := by
  obtain ⟨i0, hi, hz0, hz1, hz2⟩ := info_parts info_u8
  have hl := hS.len
  have hFR := Rn.runs_fit hF (by omega)
  have hrl := Rn.runs_len l
  have C1 := Lib.hid (refRuns_any A m c l w hS (by omega))
  generalize Rn.runs l = rs at *
  have HFR := Lib.hid hFR
  have hrl2 : rs.length ≤ 4096 := by omega
  clear hl hF hFR hrl
  go_enter Try.func31, Try.ntmps31
  go_wp2_with fail
  refine C1.out.mono ?_
  rintro e w0 ⟨A0, n0, c0, rfl, hSr, hB0⟩
  have hl := hSr.len
  have Hl := Lib.hid hl
  have hn0 : n0 ≤ 4096 := by omega
  have hcap := hSr.cap
  clear hl
  go_wp2_with fail
  go_loopw [4, 5] (fun b i wr => ∃ (k : Nat) (bs : List Int), i = .int .i64 k ∧ k ≤ n0 ∧ Hid (bs = Rn.runB (rs.take k)) ∧ wr.ownsRow w0.heap.size 5 1 b bs.length (bs.map (Value.int .u8)) ∧ Below w0.heap.size w0 wr) (fun _ i _ => n0 - (intOf i).toNat)
  case atStart => exact ⟨0, [], rfl, Nat.zero_le _, Lib.hid rfl, World.ownsRow_nil _ _ _ _, Below.refl _ _⟩
  case round =>
    obtain ⟨k, bs, rfl, hk, hbs, hown, hB⟩ := hrel
    by_cases hlt : k < n0
    · have hkl : k < rs.length := by rw [← Hl.out]; exact hlt
      obtain ⟨b, o, rfl, hbB, x0, x1⟩ := hSr.at_ k hlt
      have hm2 := HFR.out (rs.getD k (0, 0)) (by simp [List.getD, hkl])
      have hnx := Rn.runB_next rs k hkl
      rw [← hbs.out] at hnx
      have hpl := Rn.runB_len (rs.take k)
      have htk : (rs.take k).length ≤ k := List.length_take_le _ _
      have hbl : bs.length ≤ 20 * k := by rw [hbs.out]; omega
      obtain ⟨⟨x, q⟩, hxq⟩ : ∃ p, p = rs.getD k (0, 0) := ⟨_, rfl⟩
      rw [← hxq] at hm2 hnx x0 x1
      dsimp only at hm2 hnx x0 x1
      rw [← Nat.add_assoc] at x1
      have y0 := (hB.cell (p := ⟨b, o + k * 2, none⟩) hbB).trans x0
      obtain ⟨⟨hx1, hx2⟩, hq1, hq2⟩ := hm2
      have hv1 := (Nm.vd_len (Nm.zz x)).2
      have hv2 := (Nm.vd_len q).2
      have Hn := Lib.hid hnx
      have hsz := hB.size
      have i1 : (k : Int) < (n0 : Int) := by omega
      have c2 := fun w => refPutLen_any q w (by omega) (by omega)
      rw [if_neg (by omega)] at c2
      have C2 := Lib.hid c2
      have X1 := Lib.hid x1
      obtain ⟨wo, rfl⟩ : ∃ wo : World, wo = wr := ⟨_, rfl⟩
      clear hxq hnx hpl htk c2 x0 x1
      go_wp2_with fail
      refine (refPut_any x wo hx1 hx2).mono ?_
      rintro e w1 ⟨A1, n1, c1, rfl, hS1, hB1⟩
      have hown1 := Wd.own_below hown hB1
      obtain ⟨ds, hds⟩ : ∃ ds, ds = Nm.vd (Nm.zz x) := ⟨_, rfl⟩
      rw [← hds] at hS1 hv1 Hn
      have Hn1 := Lib.hid hS1.len
      have hW1 : Below w0.heap.size w0 w1 := hB.trans (hB1.mono hsz)
      have hz1' := hW1.size
      clear hds hown y0
      go_wp2_with (at_builtin; refine Wd.wpList_app _ rfl (.tmp 14) (.tmp 20) 33 rfl w0.heap.size 5 i0 _ .u8 1 Try.underlying33 hi hz0 hz1 hz2 rfl _ bs rfl hown1 w1.heap.size A1 n1 c1 ds rfl Hn1.out hS1.nil hS1.rd (by omega) (by unfold maxLen; omega) hz1' ?_; intro v' w2 hown2 hg2; have hB2 : Below w0.heap.size w0 w2 := hW1.grown hg2 hz1' (fun g hg => (hown1.lt g hg).1); have y1 := (hB2.cell (p := ⟨b, o + k * 2 + 1, none⟩) hbB).trans X1.out)
      refine (C2.out w2).mono ?_
      rintro e w3 ⟨A3, n3, c3, rfl, hS3, hB3⟩
      have hsz2 := hB2.size
      have hW3 : Below w0.heap.size w0 w3 := hB2.trans (hB3.mono hsz2)
      have hown3 := Wd.own_below hown2 hB3
      obtain ⟨es, hes⟩ : ∃ es, es = Nm.vd q := ⟨_, rfl⟩
      rw [← hes] at hS3 hv2 Hn
      have Hn3 := Lib.hid hS3.len
      have hz3 := hW3.size
      clear hes y1 hown2 hown1 hg2
      have hal : (bs ++ ds).length ≤ 20 * k + 10 := by rw [List.length_append]; omega
      go_wp2_with (at_builtin; refine Wd.wpList_app _ rfl (.tmp 22) (.tmp 28) 33 rfl w0.heap.size 5 i0 _ .u8 1 Try.underlying33 hi hz0 hz1 hz2 rfl _ (bs ++ ds) rfl hown3 w3.heap.size A3 n3 c3 es rfl Hn3.out hS3.nil hS3.rd (by omega) (by unfold maxLen; omega) hz3 ?_; intro v4 w4 hown4 hg4)
      have hB4 : Below w0.heap.size w0 w4 := hW3.grown hg4 hz3 (fun g hg => (hown3.lt g hg).1)
      go_roundw
      case rel => exact ⟨k + 1, (bs ++ ds) ++ es, by go_num, by omega, Lib.hid (by rw [Hn.out, List.append_assoc]), hown4, hB4⟩
      case measure => simp [intOf]; omega
    · go_wp2_with fail
      go_ret
      have e := hbs.out
      rw [List.take_of_length_le (by have := Hl.out; omega)] at e
      rw [e] at hown
      exact Wd.Out.of_own hown (hB0.trans (hB.mono hB0.size))
end Rc
end Go.Proofs.Ytejhnmahmnbmkaa
