/- What the reference's Pack does. -/
import Derived.Test.YtaoeipehpakngaaGreatDoorPb18
namespace Go.Proofs.YtaoeipehpakngaaGreatDoor
set_option maxRecDepth 20000
open Go.RowKit
namespace Bc
theorem bit_none (T : Int) (n t : Nat) (h0 : 0 ≤ T) (h1 : T < 2 ^ n) (h : n ≤ t) : Bt.toD 1 (t + 1) T = Bt.toD 1 t T ++ [0] := by
  have hp := Bt.pup h
  rw [toD1_succ, Int.ediv_eq_zero_of_lt h0 (by omega)]
  rfl
set_option maxHeartbeats 2000000 in
theorem refPack_ok (A : Option Addr) (m c wd : Nat) (l : List Int) (w : World) (hS : Wd.Sl w .i64 A m c l) (hB : Bt.InR wd l) (hm : m ≤ 4096) (hwd : wd ≤ 62) :
    Calls Tryz.prog 73 #[.slice A m c, .int .i64 wd] w (Wd.Out2 w .u8 (Bt.toD 8 ((m * wd + 7) / 8) (Bt.ofD wd l)) 0) := by
  obtain ⟨i0, hi, hz0, hz1, hz2⟩ := info_parts info_int
  obtain ⟨j0, hj0, yz0, yz1, yz2⟩ := info_parts info_u8
  obtain ⟨p3, p4⟩ := pow62 wd hwd
  have hpr := Nat.mul_le_mul hm hwd
  have f1 : (m * wd + 7) / 8 ≤ 31745 := by omega
  have f2 : wd * m ≤ 8 * ((m * wd + 7) / 8) := by rw [Nat.mul_comm wd m]; omega
  have f3 : 8 * ((m * wd + 7) / 8) < wd * m + 8 := by rw [Nat.mul_comm wd m]; omega
  have hl := hS.len
  have Hl := Lib.hid hl
  have HB := Lib.hid hB
  have hcap := hS.cap
  have hT0 := Bt.ofD_lo hB
  have hT1 : Bt.ofD wd l < 2 ^ (wd * m) := by rw [hl]; exact Bt.ofD_hi hB
  have HT0 := Lib.hid hT0
  have HT1 := Lib.hid hT1
  have d1 : decide ((wd : Int) < 0) = false := decide_eq_false (by omega)
  have d2 : decide (62 < (wd : Int)) = false := decide_eq_false (by omega)
  clear hl hB hT0 hT1 hpr
  generalize hN : (m * wd + 7) / 8 = N at *
  clear hN
  go_enter Tryz.func73, Tryz.ntmps73
  go_wp2_with fail
  go_loopw [6, 7] (fun v i wr => ∃ (k : Nat), i = .int .i64 k ∧ k ≤ m ∧ wr.ownsRow w.heap.size 3 1 v (Bt.toD 1 (wd * k) (Bt.ofD wd (l.take k))).length ((Bt.toD 1 (wd * k) (Bt.ofD wd (l.take k))).map (Value.int .i64)) ∧ Below w.heap.size w wr) (fun _ i _ => m - (intOf i).toNat)
  case atStart => exact ⟨0, rfl, Nat.zero_le _, World.ownsRow_nil _ _ _ _, Below.refl _ _⟩
  case round =>
    obtain ⟨k, rfl, hk, hown, hb⟩ := hrel
    have hsz := hb.size
    have hln' : (Bt.toD 1 (wd * k) (Bt.ofD wd (l.take k))).length ≤ 300000 := by
      rw [Bt.toD_len]
      have := Nat.mul_le_mul hwd (show k ≤ 4096 by omega)
      omega
    by_cases hlt : k < m
    · have hkl : k < l.length := by rw [← Hl.out]; exact hlt
      obtain ⟨b, o, rfl, hbB, hcell0⟩ := hS.rd k hkl
      have hcell := (hb.cell (p := ⟨b, o + k, none⟩) hbB).trans hcell0
      obtain ⟨x, hx⟩ : ∃ x, x = l.getD k 0 := ⟨_, rfl⟩
      have hx2 := HB.out x (by rw [hx]; simp [List.getD, hkl])
      obtain ⟨hx0, hx1⟩ := hx2
      have hx3 : x ≤ 9223372036854775807 := by omega
      have hwx : wid x ≤ wd := (wid_le wd x).2 hx1
      rw [← hx] at hcell
      have e : Bt.toD 1 (wd * (k + 1)) (Bt.ofD wd (l.take (k + 1))) = Bt.toD 1 (wd * k) (Bt.ofD wd (l.take k)) ++ Bt.toD 1 wd x := by
        rw [take_next l k hkl, ← hx, Nat.mul_add, Nat.mul_one]
        exact Bt.toD_snoc (InR.take HB.out k) (by rw [List.length_take, Nat.min_eq_left (by omega)])
      have He := Lib.hid e
      clear hx hcell0 e hkl
      generalize Bt.toD 1 (wd * k) (Bt.ofD wd (l.take k)) = xs at *
      go_wp2_with fail
      refine (refWidth_any x wr (by omega) (by omega)).mono ?_
      rintro e w' ⟨rfl, rfl⟩
      go_wp2_with fail
      refine (number_any x wd wr hx0 hx3 hwd).mono ?_
      rintro e w1 ⟨A1, n1, c1, rfl, hS1, hB1⟩
      have hown1 := Wd.own_below hown hB1
      have hb1 : Below w.heap.size w w1 := hb.trans (hB1.mono hsz)
      have Hn1 := Lib.hid hS1.len
      have hl8 := Bt.toD_len 1 wd x
      have hl8' : (Bt.toD 1 wd x).length ≤ 62 := by omega
      have hlt1 := hown.lt
      have hsz1 := hb1.size
      clear hown hl8 hB1 hb
      go_wp2_with (at_builtin; refine Wd.wpList_app _ rfl (.tmp 41) (.tmp 47) 25 rfl w.heap.size 3 i0 _ .i64 8 Tryz.underlying25 hi hz0 hz1 hz2 rfl _ xs rfl hown1 w1.heap.size A1 n1 c1 (Bt.toD 1 wd x) rfl Hn1.out hS1.nil hS1.rd (by omega) (by unfold maxLen; omega) hsz1 ?_; intro v' w2 hown2 hgrow)
      have hb2 : Below w.heap.size w w2 := hb1.grown hgrow hsz1 (fun g hg => (hlt1 g hg).1)
      rw [← He.out] at hown2
      clear hown1 hgrow hb1 hlt1 hS1
      go_roundw
      case rel => exact ⟨k + 1, by go_num, by omega, hown2, hb2⟩
      case measure => simp [intOf]; omega
    · obtain rfl : k = m := by omega
      rw [List.take_of_length_le (by rw [← Hl.out]; exact Nat.le_refl _)] at hown
      obtain ⟨wo, rfl⟩ : ∃ wo : World, wo = wr := ⟨_, rfl⟩
      clear hlt hk hln' hS hcap
      go_wp2_with fail
      go_loopw [6] (fun v wr => ∃ (t : Nat) (A : Option Addr) (c : Nat), v = .slice A t c ∧ wd * k ≤ t ∧ t ≤ 8 * N ∧ wr.ownsRow w.heap.size 3 1 v (Bt.toD 1 t (Bt.ofD wd l)).length ((Bt.toD 1 t (Bt.ofD wd l)).map (Value.int .i64)) ∧ Below w.heap.size w wr) (fun v _ => 8 * N - Wd.lenOf v)
      case atStart =>
        obtain ⟨A2, c2, rfl⟩ := Wd.own_slice hown (Bt.toD_len _ _ _)
        exact ⟨wd * k, A2, c2, rfl, Nat.le_refl _, f2, hown, hb⟩
      case round =>
        clear hown hb hsz
        obtain ⟨t, A2, c2, rfl, ht0, ht1, hown, hb⟩ := hrel
        have hsz := hb.size
        have hln' : (Bt.toD 1 t (Bt.ofD wd l)).length ≤ 300000 := by rw [Bt.toD_len]; omega
        by_cases hlt : 0 < t % 8
        · have e := bit_none (Bt.ofD wd l) (wd * k) t HT0.out HT1.out ht0
          have He := Lib.hid e
          clear e
          have ht2 : t + 1 ≤ 8 * N := by omega
          go_wp2_with (at_builtin; refine Wd.wpList_app _ rfl (.tmp 53) (.tmp 54) 25 rfl w.heap.size 3 i0 _ .i64 8 Tryz.underlying25 hi hz0 hz1 hz2 rfl _ (Bt.toD 1 t (Bt.ofD wd l)) rfl (hown.alloc _) (wr.heap.size + 1) _ 1 1 [0] rfl rfl (by simp) (Wd.Rd.lit wr .i64 [0] _ _ rfl) (by simp; omega) (by simp [maxLen]; omega) (by simp; omega) ?_; intro v' w2 hown2 hgrow)
          have hb2 : Below w.heap.size w w2 := (hb.alloc hsz _).grown hgrow (by simp; omega) (fun g hg => (hown.lt g hg).1)
          rw [← He.out] at hown2
          obtain ⟨A3, c3, rfl⟩ := Wd.own_slice hown2 (Bt.toD_len _ _ _)
          clear hown hgrow hb
          go_roundw
          case rel => exact ⟨t + 1, A3, c3, rfl, by omega, ht2, hown2, hb2⟩
          case measure => simp [Wd.lenOf]; omega
        · obtain rfl : t = 8 * N := by omega
          obtain ⟨_, A3, c3, e3, g1, g2, g3, g4⟩ := Wd.own_form hown
          have hS2 : Wd.Sl wr .i64 A2 (8 * N) c2 (Bt.toD 1 (8 * N) (Bt.ofD wd l)) := by
            rw [Bt.toD_len] at e3 g1
            cases e3
            exact ⟨by rw [Bt.toD_len], g1, g2, g3, g4⟩
          have hc2 := hS2.cap
          have hx2 := hS2.max
          unfold maxLen at hx2
          obtain ⟨w2, rfl⟩ : ∃ w2 : World, w2 = wr := ⟨_, rfl⟩
          clear hown e3 g1 g2 g3 g4 hlt hln' ht0 ht1
          go_wp2_with fail
          go_loopw [9, 10] (fun v i wr => ∃ (k : Nat), i = .int .i64 (8 * k : Nat) ∧ k ≤ N ∧ wr.ownsRow w2.heap.size 5 1 v (Bt.toD 8 k (Bt.ofD wd l)).length ((Bt.toD 8 k (Bt.ofD wd l)).map (Value.int .u8)) ∧ Below w2.heap.size w2 wr) (fun _ i _ => 8 * N - (intOf i).toNat)
          case atStart => exact ⟨0, rfl, Nat.zero_le _, World.ownsRow_nil _ _ _ _, Below.refl _ _⟩
          case round =>
            obtain ⟨k, rfl, hk, hown, hb3⟩ := hrel
            by_cases hlt : k < N
            · have hfin : Bt.ofD 1 (((Bt.toD 1 (8 * N) (Bt.ofD wd l)).drop (8 * k)).take (8 * k + 8 - 8 * k)) = Bt.dig 8 (Bt.ofD wd l) k := by
                rw [show 8 * k + 8 - 8 * k = 8 by omega]
                exact Bt.ofD_cut 8 (8 * N) k _ (by omega)
              have Hfin := Lib.hid hfin
              have hsz3 := hb3.size
              have hln' : (Bt.toD 8 k (Bt.ofD wd l)).length ≤ 40000 := by rw [Bt.toD_len]; omega
              have Hnext := Lib.hid (toD_next 8 k (Bt.ofD wd l))
              have hd0 := Bt.dig_lo 8 (Bt.ofD wd l) k
              have hd1 : Bt.dig 8 (Bt.ofD wd l) k ≤ 255 := by
                have := Bt.dig_hi 8 (Bt.ofD wd l) k
                rw [show (2 : Int) ^ 8 = 256 by decide] at this
                omega
              have hM := (hS2.below hb3).mid' (8 * k) (8 * k + 8) (by omega) (by omega) (by omega)
              rw [show 8 * k + 8 - 8 * k = 8 by omega] at hM Hfin
              clear hfin
              go_wp2_with fail
              refine (value_any _ _ _ _ wr hM (bits_cut _ _ _ _) (by omega)).mono ?_
              rintro e w3 ⟨rfl, rfl⟩
              rw [Hfin.out]
              clear hM
              go_wp2_with (at_builtin; refine Wd.wpList_app _ rfl (.tmp 62) (.tmp 70) 32 rfl w2.heap.size 5 j0 _ .u8 1 Tryz.underlying32 hj0 yz0 yz1 yz2 rfl _ (Bt.toD 8 k (Bt.ofD wd l)) rfl (hown.alloc _) (wr.heap.size + 1) _ 1 1 [Bt.dig 8 (Bt.ofD wd l) k] rfl rfl (by simp) (Wd.Rd.lit wr .u8 [Bt.dig 8 (Bt.ofD wd l) k] _ _ rfl) (by simp; omega) (by simp [maxLen]; omega) (by simp; omega) ?_; intro v' w4 hown4 hgrow)
              have hb4 : Below w2.heap.size w2 w4 := (hb3.alloc hsz3 _).grown hgrow (by simp; omega) (fun g hg => (hown.lt g hg).1)
              rw [← Hnext.out] at hown4
              clear hown hgrow hb3
              go_roundw
              case rel => exact ⟨k + 1, by go_num, by omega, hown4, hb4⟩
              case measure => simp [intOf]; omega
            · obtain rfl : k = N := by omega
              obtain ⟨A5, n5, c5, rfl, hS5⟩ := Wd.Sl.of_own hown
              have hW : Below w.heap.size w wr := hb.trans (hb3.mono hb.size)
              clear hown hS2 hb hb3
              go_wp2_with fail
              go_ret2
              exact ⟨_, _, _, rfl, hS5, hW⟩
theorem refPack_arg (A : Option Addr) (m c : Nat) (wd : Int) (w : World) (h : wd < 0 ∨ 62 < wd) :
    Calls Tryz.prog 73 #[.slice A m c, .int .i64 wd] w (Wd.Out2 w .u8 [] 1) := by
  rcases (show wd < 0 ∨ (0 ≤ wd ∧ 62 < wd) by omega) with r | ⟨r, r2⟩
  · clear h
    go_enter Tryz.func73, Tryz.ntmps73
    go_wp2_with fail
    go_ret2
    exact Wd.Out2.err _ _ _ _ (Below.refl _ _)
  · clear h
    go_enter Tryz.func73, Tryz.ntmps73
    go_wp2_with fail
    go_ret2
    exact Wd.Out2.err _ _ _ _ (Below.refl _ _)
theorem refPack_long (A : Option Addr) (m c : Nat) (wd : Int) (w : World) (h1 : 0 ≤ wd) (h2 : wd ≤ 62) (h3 : 4096 < m) (h4 : m ≤ 9223372036854775807) :
    Calls Tryz.prog 73 #[.slice A m c, .int .i64 wd] w (Wd.Out2 w .u8 [] 2) := by
  go_enter Tryz.func73, Tryz.ntmps73
  go_wp2_with fail
  go_ret2
  exact Wd.Out2.err _ _ _ _ (Below.refl _ _)
set_option maxHeartbeats 2000000 in
theorem refPack_bad (A : Option Addr) (m c wd : Nat) (l : List Int) (w : World) (hS : Wd.Sl w .i64 A m c l) (hF : Wd.Fits .i64 l) (hm : m ≤ 4096) (hwd : wd ≤ 62) (j : Nat) (hj : j < m) (hbad : ¬ (0 ≤ l.getD j 0 ∧ l.getD j 0 < 2 ^ wd)) :
    Calls Tryz.prog 73 #[.slice A m c, .int .i64 wd] w (Wd.Out2 w .u8 [] 1) := by
  obtain ⟨i0, hi, hz0, hz1, hz2⟩ := info_parts info_int
  obtain ⟨p3, p4⟩ := pow62 wd hwd
  have hl := hS.len
  have Hl := Lib.hid hl
  have HF := Lib.hid hF
  have hcap := hS.cap
  have Hbad := Lib.hid hbad
  have d1 : decide ((wd : Int) < 0) = false := decide_eq_false (by omega)
  have d2 : decide (62 < (wd : Int)) = false := decide_eq_false (by omega)
  clear hl hbad hF
  go_enter Tryz.func73, Tryz.ntmps73
  go_wp2_with fail
  go_loopw [6, 7] (fun v i wr => ∃ (k : Nat) (xs : List Int), i = .int .i64 k ∧ k ≤ j ∧ xs.length ≤ 62 * k ∧ wr.ownsRow w.heap.size 3 1 v xs.length (xs.map (Value.int .i64)) ∧ Below w.heap.size w wr) (fun _ i _ => m - (intOf i).toNat)
  case atStart => exact ⟨0, [], rfl, Nat.zero_le _, by simp, World.ownsRow_nil _ _ _ _, Below.refl _ _⟩
  case round =>
    obtain ⟨k, xs, rfl, hk, hxl, hown, hb⟩ := hrel
    have hsz := hb.size
    have hlt : k < m := by omega
    have hkl : k < l.length := by rw [← Hl.out]; exact hlt
    obtain ⟨b, o, rfl, hbB, hcell0⟩ := hS.rd k hkl
    have hcell := (hb.cell (p := ⟨b, o + k, none⟩) hbB).trans hcell0
    have hx2 := i64_of_fits HF.out k hkl
    obtain ⟨x, hx⟩ : ∃ x, x = l.getD k 0 := ⟨_, rfl⟩
    rw [← hx] at hcell hx2
    obtain ⟨hx0, hx1⟩ := hx2
    have hw63 := wid_63 x hx1
    have Hx := Lib.hid hx
    clear hx hcell0 hkl
    rcases (show x < 0 ∨ (0 ≤ x ∧ x < 2 ^ wd) ∨ (0 ≤ x ∧ 2 ^ wd ≤ x) by omega) with q | ⟨q, q2⟩ | ⟨q, q2⟩
    · go_wp2_with fail
      refine (refWidth_any x wr (by omega) (by omega)).mono ?_
      rintro e w' ⟨rfl, rfl⟩
      go_wp2_with fail
      go_ret2
      exact Wd.Out2.err _ _ _ _ hb
    · have hkj : k ≠ j := by
        intro e
        rw [← e, ← Hx.out] at Hbad
        exact Hbad.out ⟨q, q2⟩
      have hkj2 : k < j := by omega
      have hwx : wid x ≤ wd := (wid_le wd x).2 q2
      clear hkj
      go_wp2_with fail
      refine (refWidth_any x wr (by omega) (by omega)).mono ?_
      rintro e w' ⟨rfl, rfl⟩
      go_wp2_with fail
      refine (number_any x wd wr q hx1 hwd).mono ?_
      rintro e w1 ⟨A1, n1, c1, rfl, hS1, hB1⟩
      have hown1 := Wd.own_below hown hB1
      have hb1 : Below w.heap.size w w1 := hb.trans (hB1.mono hsz)
      have Hn1 := Lib.hid hS1.len
      have hl8 := Bt.toD_len 1 wd x
      have hl8' : (Bt.toD 1 wd x).length ≤ 62 := by omega
      have hlt1 := hown.lt
      have hsz1 := hb1.size
      clear hown hl8 hB1 hb
      go_wp2_with (at_builtin; refine Wd.wpList_app _ rfl (.tmp 41) (.tmp 47) 25 rfl w.heap.size 3 i0 _ .i64 8 Tryz.underlying25 hi hz0 hz1 hz2 rfl _ xs rfl hown1 w1.heap.size A1 n1 c1 (Bt.toD 1 wd x) rfl Hn1.out hS1.nil hS1.rd (by omega) (by unfold maxLen; omega) hsz1 ?_; intro v' w2 hown2 hgrow)
      have hb2 : Below w.heap.size w w2 := hb1.grown hgrow hsz1 (fun g hg => (hlt1 g hg).1)
      clear hown1 hgrow hb1 hlt1 hS1
      go_roundw
      case rel => exact ⟨k + 1, xs ++ Bt.toD 1 wd x, by go_num, by omega, by simp; omega, hown2, hb2⟩
      case measure => simp [intOf]; omega
    · have hwx : wd < wid x := by
        have := (wid_le wd x)
        refine Nat.lt_of_not_le fun h => ?_
        have := this.1 h
        omega
      go_wp2_with fail
      refine (refWidth_any x wr (by omega) (by omega)).mono ?_
      rintro e w' ⟨rfl, rfl⟩
      go_wp2_with fail
      go_ret2
      exact Wd.Out2.err _ _ _ _ hb
theorem refPack_any (A : Option Addr) (m c : Nat) (wd : Int) (l : List Int) (w : World) (hS : Wd.Sl w .i64 A m c l) (hF : Wd.Fits .i64 l) :
    Calls Tryz.prog 73 #[.slice A m c, .int .i64 wd] w (Wd.Out2 w .u8 (packL l wd) (packE l wd)) := by
  have hl := hS.len
  have hcap := hS.cap
  have hmax := hS.max
  unfold maxLen at hmax
  by_cases h1 : wd < 0 ∨ 62 < wd
  · have e : packE l wd = 1 := if_pos h1
    rw [packL, e, if_neg (by omega)]
    exact refPack_arg A m c wd w h1
  · by_cases h2 : 4096 < l.length
    · have e : packE l wd = 2 := by unfold packE; rw [if_neg h1, if_pos h2]
      rw [packL, e, if_neg (by omega)]
      exact refPack_long A m c wd w (by omega) (by omega) (by omega) (by omega)
    · obtain ⟨W, rfl⟩ := Int.eq_ofNat_of_zero_le (show 0 ≤ wd by omega)
      by_cases h3 : Bt.InR W l
      · have e : packE l W = 0 := by unfold packE; rw [if_neg h1, if_neg h2]; exact if_pos ((inB_iff W l).2 h3)
        rw [packL, e, if_pos rfl, ← hl]
        exact refPack_ok A m c W l w hS h3 (by omega) (by omega)
      · have e : packE l W = 1 := by unfold packE; rw [if_neg h1, if_neg h2]; exact if_neg (fun q => h3 ((inB_iff W l).1 q))
        rw [packL, e, if_neg (by omega)]
        have : ∃ j, j < l.length ∧ ¬ (0 ≤ l.getD j 0 ∧ l.getD j 0 < 2 ^ W) := by
          refine Classical.byContradiction fun hno => h3 fun x hx => ?_
          obtain ⟨j, hj, rfl⟩ := List.getElem_of_mem hx
          refine Classical.byContradiction fun hb => hno ⟨j, hj, ?_⟩
          simpa [List.getD, hj] using hb
        obtain ⟨j, hj, hb⟩ := this
        exact refPack_bad A m c W l w hS hF (by omega) (by omega) j (by omega) hb
end Bc
end Go.Proofs.YtaoeipehpakngaaGreatDoor
