/- What the reference's Unpack does. What the reference's Pack does. What the reference of layer 10 does: Build. The numbers that a growing dictionary gives to the values of a column; plain facts. -/
import Derived.Test.YtnhgijlhnamolaaGreatDoorPk07
import Derived.Test.YtnhgijlhnamolaaGreatDoorPk11
import Derived.Test.YtnhgijlhnamolaaGreatDoorPk16
namespace Go.Proofs.YtnhgijlhnamolaaGreatDoor
set_option maxRecDepth 20000
open Go.RowKit
namespace Bc

theorem toD_next (wd k : Nat) (v : Int) : Bt.toD wd (k + 1) v = Bt.toD wd k v ++ [Bt.dig wd v k] := by
  rw [Bt.toD_add]
  congr 1
  simp [Bt.toD, Bt.dig]

theorem ofD_none (w n : Nat) : Bt.ofD w (List.replicate n 0) = 0 := by
  induction n with
  | zero => rfl
  | succ n ih =>
    show (0 : Int) + 2 ^ w * Bt.ofD w (List.replicate n 0) = 0
    rw [ih]; simp
theorem bits_none (v : Int) (a b : Nat) (hab : a ≤ b) (h0 : 0 ≤ v) (h1 : v < 2 ^ b) (h : ∀ t, a ≤ t → t < b → Bt.dig 1 v t = 0) : v / 2 ^ a = 0 := by
  have hp := Bt.p0 a
  obtain ⟨d, rfl⟩ : ∃ d, b = a + d := ⟨b - a, by omega⟩
  have hu0 : 0 ≤ v / 2 ^ a := Int.ediv_nonneg h0 (by omega)
  have hu1 : v / 2 ^ a < 2 ^ (1 * d) := by
    rw [Nat.one_mul]
    rw [Int.pow_add, Int.mul_comm] at h1
    exact Int.ediv_lt_of_lt_mul hp h1
  have e := Bt.ofD_toD 1 d (v / 2 ^ a) hu0 hu1
  have e2 : Bt.toD 1 d (v / 2 ^ a) = List.replicate d 0 := by
    refine Bt.ext_getD (by simp [Bt.toD_len]) fun i hi => ?_
    rw [Bt.toD_len] at hi
    rw [Bt.toD_get _ _ _ _ hi]
    have h2 := h (a + i) (by omega) (by omega)
    unfold Bt.dig at h2 ⊢
    rw [Nat.one_mul, Int.pow_add, ← Int.ediv_ediv_of_nonneg (by omega)] at h2
    rw [Nat.one_mul, h2]
    simp [List.getD, hi]
  rw [e2, ofD_none] at e
  exact e.symm

set_option maxHeartbeats 1600000 in
theorem refUn_in (A : Option Addr) (m c n wd : Nat) (bs : List Int) (w : World) (hS : Wd.Sl w .u8 A m c bs) (hB : Bt.InR 8 bs) (hm : m ≤ 1000000) (hwd0 : 1 ≤ wd) (hwd : wd ≤ 62) (hn : n ≤ 4096) (hfit : m = (n * wd + 7) / 8)
    (ys : List Int) (er : Int) (y0 : Bt.ofD 8 bs / 2 ^ (n * wd) = 0 → ys = Bt.toD wd n (Bt.ofD 8 bs) ∧ er = 0) (y1 : Bt.ofD 8 bs / 2 ^ (n * wd) ≠ 0 → ys = [] ∧ er = 7) :
    Calls Tryz.prog 23 #[.slice A m c, .int .i64 n, .int .i64 wd] w (Wd.Out2 w .i64 ys er) := by
  obtain ⟨i0, hi, hz0, hz1, hz2⟩ := info_parts info_int
  obtain ⟨p1, p2⟩ := prod_le n wd hn hwd
  have E2 := Lib.hid (mul_cast n wd)
  have Hl := Lib.hid hS.len
  have Y0 := Lib.hid y0
  have Y1 := Lib.hid y1
  have f1 : m ≤ (n * wd + 7) / 8 := by omega
  have f2 : (n * wd + 7) / 8 ≤ m := by omega
  have f3 : n * wd ≤ 8 * m := by omega
  have d1 : decide ((wd : Int) < 0) = false := decide_eq_false (by omega)
  have d2 : decide (62 < (wd : Int)) = false := decide_eq_false (by omega)
  have d3 : decide ((n : Int) < 0) = false := decide_eq_false (by omega)
  clear hfit y0 y1
  go_enter Tryz.func23, Tryz.ntmps23
  go_wp2_with fail
  refine (spread_any A m c bs w hS hB hm).mono ?_
  rintro e w1 ⟨A1, n1, c1, rfl, hS1, hB1⟩
  have hn1 : n1 = 8 * m := by have := hS1.len; rw [Bt.toD_len] at this; exact this
  have hc1 := hS1.cap
  have hx1 := hS1.max
  unfold maxLen at hx1
  subst hn1
  clear hS
  go_wp2_with fail
  go_loopw [9, 10] (fun v i wr => ∃ (k : Nat), i = .int .i64 k ∧ k ≤ n ∧ wr.ownsRow w1.heap.size 3 1 v (Bt.toD wd k (Bt.ofD 8 bs)).length ((Bt.toD wd k (Bt.ofD 8 bs)).map (Value.int .i64)) ∧ Below w1.heap.size w1 wr) (fun _ i _ => n - (intOf i).toNat)
  case atStart => exact ⟨0, rfl, Nat.zero_le _, World.ownsRow_nil _ _ _ _, Below.refl _ _⟩
  case round =>
    obtain ⟨k, rfl, hk, hown, hb⟩ := hrel
    by_cases hlt : k < n
    · have q0 : (k + 1) * wd ≤ n * wd := Nat.mul_le_mul_right wd hlt
      have e1 : ((k : Int) + 1) * (wd : Int) = (((k + 1) * wd : Nat) : Int) := by simp
      have e2 := mul_cast k wd
      have q1 : ((k : Int) + 1) * (wd : Int) ≤ 8 * (m : Int) := by rw [e1]; omega
      have q2 : 0 ≤ ((k : Int) + 1) * (wd : Int) := by rw [e1]; omega
      have q3 : (k : Int) * (wd : Int) ≤ ((k : Int) + 1) * (wd : Int) := by rw [e1, e2, Nat.add_mul]; omega
      have q4 : 0 ≤ (k : Int) * (wd : Int) := by rw [e2]; omega
      have q5 : k * wd < (k + 1) * wd := by rw [Nat.add_mul]; omega
      have hfin : Bt.ofD 1 (((Bt.toD 1 (8 * m) (Bt.ofD 8 bs)).drop (k * wd)).take ((k + 1) * wd - k * wd)) = Bt.dig wd (Bt.ofD 8 bs) k := by
        rw [next_mul, Nat.mul_comm k wd]
        exact Bt.ofD_cut wd (8 * m) k _ (by rw [Nat.mul_comm wd k]; rw [Nat.add_mul] at q0; omega)
      have Hfin := Lib.hid hfin
      have Hn := Lib.hid (next_mul k wd)
      have hsz := hb.size
      have hln' : (Bt.toD wd k (Bt.ofD 8 bs)).length ≤ 4096 := by rw [Bt.toD_len]; omega
      have Hnext := Lib.hid (toD_next wd k (Bt.ofD 8 bs))
      have hd0 := Bt.dig_lo wd (Bt.ofD 8 bs) k
      clear e1 e2 hfin
      have hM := (hS1.below hb).mid' (k * wd) ((k + 1) * wd) (by omega) (by omega) (by omega)
      go_wp2_with fail
      refine (value_any _ _ _ _ wr hM (bits_cut _ _ _ _) (by rw [Hn.out]; omega)).mono ?_
      rintro e w2 ⟨rfl, rfl⟩
      rw [Hfin.out]
      clear hM
      go_wp2_with (at_builtin; refine Wd.wpList_app _ rfl (.tmp 46) (.tmp 57) 28 rfl w1.heap.size 3 i0 _ .i64 8 Tryz.underlying28 hi hz0 hz1 hz2 rfl _ (Bt.toD wd k (Bt.ofD 8 bs)) rfl (hown.alloc _) (wr.heap.size + 1) _ 1 1 [Bt.dig wd (Bt.ofD 8 bs) k] rfl rfl (by simp) (Wd.Rd.lit wr .i64 [Bt.dig wd (Bt.ofD 8 bs) k] _ _ rfl) (by simp; omega) (by simp [maxLen]; omega) (by simp; omega) ?_; intro v' w3 hown3 hgrow)
      have hb3 : Below w1.heap.size w1 w3 := (hb.alloc hsz _).grown hgrow (by simp; omega) (fun g hg => (hown.lt g hg).1)
      rw [← Hnext.out] at hown3
      clear hown hgrow hb
      go_roundw
      case rel => exact ⟨k + 1, by go_num, by omega, hown3, hb3⟩
      case measure => simp [intOf]; omega
    · obtain rfl : k = n := by omega
      obtain ⟨A4, n4, c4, rfl, hS4⟩ := Wd.Sl.of_own hown
      have hS1r := hS1.below hb
      have hW : Below w.heap.size w wr := hB1.trans (hb.mono hB1.size)
      obtain ⟨wo, rfl⟩ : ∃ wo : World, wo = wr := ⟨_, rfl⟩
      clear hown hS1 hb hlt hk hB1
      go_wp2_with fail
      go_loop [11] (fun i => ∃ j : Nat, i = .int .i64 j ∧ k * wd ≤ j ∧ j ≤ 8 * m ∧ ∀ t, k * wd ≤ t → t < j → Bt.dig 1 (Bt.ofD 8 bs) t = 0) (fun i => 8 * m - (intOf i).toNat)
      case atStart => exact ⟨k * wd, by rw [E2.out], Nat.le_refl _, f3, fun t h1 h2 => by omega⟩
      case round =>
        obtain ⟨j, rfl, hj0, hj, hall⟩ := hrel
        have Hall := Lib.hid hall
        clear hall
        by_cases hlt : j < 8 * m
        · obtain ⟨b, o, hA, hbB, hcell⟩ := hS1r.rd j (by rw [Bt.toD_len]; exact hlt)
          rw [Bt.toD_get _ _ _ _ hlt] at hcell
          subst hA
          by_cases hx : Bt.dig 1 (Bt.ofD 8 bs) j = 0
          · rw [hx] at hcell
            have Hx := Lib.hid hx
            clear hx
            go_wp2_with fail
            go_round
            case rel =>
              refine ⟨j + 1, by go_num, by omega, by omega, fun t h1 h2 => ?_⟩
              rcases (show t < j ∨ t = j by omega) with h | h
              · exact Hall.out t h1 h
              · rw [h]; exact Hx.out
            case measure => simp [intOf]; omega
          · have hb1 : (Bt.dig 1 (Bt.ofD 8 bs) j != 0) = true := by rw [bne_iff_ne]; exact hx
            have Hx := Lib.hid hx
            clear hx
            have hne : Bt.ofD 8 bs / 2 ^ (k * wd) ≠ 0 := by
              intro e
              refine Hx.out ?_
              unfold Bt.dig
              obtain ⟨d, rfl⟩ : ∃ d, j = k * wd + d := ⟨j - k * wd, by omega⟩
              have := Bt.p0 (k * wd)
              rw [Nat.one_mul, Int.pow_add, ← Int.ediv_ediv_of_nonneg (by omega), e]
              simp
            obtain ⟨rfl, rfl⟩ := Y1.out hne
            clear hne
            go_wp2_with fail
            go_ret2
            exact Wd.Out2.err _ _ _ _ hW
        · have hz : Bt.ofD 8 bs / 2 ^ (k * wd) = 0 :=
            bits_none _ (k * wd) (8 * m) f3 (Bt.ofD_lo hB) (by rw [Hl.out]; exact Bt.ofD_hi hB) (fun t h1 h2 => Hall.out t h1 (by omega))
          obtain ⟨rfl, rfl⟩ := Y0.out hz
          clear hz
          go_wp2_with fail
          go_ret2
          exact ⟨_, _, _, rfl, hS4, hW⟩

set_option maxHeartbeats 1600000 in
theorem refUn_zero (A : Option Addr) (c n : Nat) (w : World) (hS : Wd.Sl w .u8 A 0 c []) (hn : n ≤ 4096) :
    Calls Tryz.prog 23 #[.slice A 0 c, .int .i64 n, .int .i64 0] w (Wd.Out2 w .i64 (Bt.toD 0 n 0) 0) := by
  obtain ⟨i0, hi, hz0, hz1, hz2⟩ := info_parts info_int
  have d3 : decide ((n : Int) < 0) = false := decide_eq_false (by omega)
  go_enter Tryz.func23, Tryz.ntmps23
  go_wp2_with fail
  refine (spread_any A 0 c [] w hS (fun x hx => by simp at hx) (by omega)).mono ?_
  rintro e w1 ⟨A1, n1, c1, rfl, hS1, hB1⟩
  have hn1 : n1 = 0 := by have := hS1.len; rw [Bt.toD_len] at this; exact this
  have hx1 := hS1.max
  unfold maxLen at hx1
  subst hn1
  have e0 : Bt.toD 1 (8 * 0) (Bt.ofD 8 []) = [] := rfl
  rw [e0] at hS1
  clear hS e0
  go_wp2_with fail
  go_loopw [9, 10] (fun v i wr => ∃ (k : Nat), i = .int .i64 k ∧ k ≤ n ∧ wr.ownsRow w1.heap.size 3 1 v (Bt.toD 0 k 0).length ((Bt.toD 0 k 0).map (Value.int .i64)) ∧ Below w1.heap.size w1 wr) (fun _ i _ => n - (intOf i).toNat)
  case atStart => exact ⟨0, rfl, Nat.zero_le _, World.ownsRow_nil _ _ _ _, Below.refl _ _⟩
  case round =>
    obtain ⟨k, rfl, hk, hown, hb⟩ := hrel
    by_cases hlt : k < n
    · have hsz := hb.size
      have hln' : (Bt.toD 0 k 0).length ≤ 4096 := by rw [Bt.toD_len]; omega
      have hnext := toD_next 0 k 0
      rw [dig_none] at hnext
      have Hnext := Lib.hid hnext
      clear hnext
      have hM := hS1.below hb
      go_wp2_with fail
      refine (value_any _ _ _ _ wr hM (fun x hx => by simp at hx) (by omega)).mono ?_
      rintro e w2 ⟨rfl, rfl⟩
      clear hM
      have e0 : Bt.ofD 1 [] = 0 := rfl
      rw [e0]
      clear e0
      go_wp2_with (at_builtin; refine Wd.wpList_app _ rfl (.tmp 46) (.tmp 57) 28 rfl w1.heap.size 3 i0 _ .i64 8 Tryz.underlying28 hi hz0 hz1 hz2 rfl _ (Bt.toD 0 k 0) rfl (hown.alloc _) (wr.heap.size + 1) _ 1 1 [0] rfl rfl (by simp) (Wd.Rd.lit wr .i64 [0] _ _ rfl) (by simp; omega) (by simp [maxLen]; omega) (by simp; omega) ?_; intro v' w3 hown3 hgrow)
      have hb3 : Below w1.heap.size w1 w3 := (hb.alloc hsz _).grown hgrow (by simp; omega) (fun g hg => (hown.lt g hg).1)
      rw [← Hnext.out] at hown3
      clear hown hgrow hb
      go_roundw
      case rel => exact ⟨k + 1, by go_num, by omega, hown3, hb3⟩
      case measure => simp [intOf]; omega
    · obtain rfl : k = n := by omega
      obtain ⟨A4, n4, c4, rfl, hS4⟩ := Wd.Sl.of_own hown
      have hW : Below w.heap.size w wr := hB1.trans (hb.mono hB1.size)
      clear hown hS1 hb hlt hk hB1
      go_wp2_with fail
      refine wp_loop_rounds 1 ?_
      rw [rounds_succ]
      go_wp2_with fail
      go_ret2
      exact ⟨_, _, _, rfl, hS4, hW⟩

set_option maxHeartbeats 800000 in
theorem refUn_arg (A : Option Addr) (m c : Nat) (n wd : Int) (w : World) (h : wd < 0 ∨ 62 < wd ∨ n < 0) :
    Calls Tryz.prog 23 #[.slice A m c, .int .i64 n, .int .i64 wd] w (Wd.Out2 w .i64 [] 1) := by
  rcases (show wd < 0 ∨ (0 ≤ wd ∧ 62 < wd) ∨ (0 ≤ wd ∧ wd ≤ 62 ∧ n < 0) by omega) with r | ⟨r, r2⟩ | ⟨r, r2, r3⟩
  · clear h
    go_enter Tryz.func23, Tryz.ntmps23
    go_wp2_with fail
    go_ret2
    exact Wd.Out2.err _ _ _ _ (Below.refl _ _)
  · clear h
    go_enter Tryz.func23, Tryz.ntmps23
    go_wp2_with fail
    go_ret2
    exact Wd.Out2.err _ _ _ _ (Below.refl _ _)
  · clear h
    go_enter Tryz.func23, Tryz.ntmps23
    go_wp2_with fail
    go_ret2
    exact Wd.Out2.err _ _ _ _ (Below.refl _ _)
theorem refUn_long (A : Option Addr) (m c : Nat) (n wd : Int) (w : World) (h1 : 0 ≤ wd) (h2 : wd ≤ 62) (h3 : 4096 < n) :
    Calls Tryz.prog 23 #[.slice A m c, .int .i64 n, .int .i64 wd] w (Wd.Out2 w .i64 [] 2) := by
  have h4 : 0 ≤ n := by omega
  go_enter Tryz.func23, Tryz.ntmps23
  go_wp2_with fail
  go_ret2
  exact Wd.Out2.err _ _ _ _ (Below.refl _ _)
theorem refUn_short (A : Option Addr) (m c n wd : Nat) (w : World) (hm : m ≤ 1000000) (hwd : wd ≤ 62) (hn : n ≤ 4096) (h : m < (n * wd + 7) / 8) :
    Calls Tryz.prog 23 #[.slice A m c, .int .i64 n, .int .i64 wd] w (Wd.Out2 w .i64 [] 6) := by
  obtain ⟨p1, p2⟩ := prod_le n wd hn hwd
  have e2 := mul_cast n wd
  have f3 : 8 * (m : Int) < (n : Int) * (wd : Int) := by rw [e2]; omega
  clear e2 h
  go_enter Tryz.func23, Tryz.ntmps23
  go_wp2_with fail
  go_ret2
  exact Wd.Out2.err _ _ _ _ (Below.refl _ _)
theorem refUn_much (A : Option Addr) (m c n wd : Nat) (w : World) (hm : m ≤ 1000000) (hwd : wd ≤ 62) (hn : n ≤ 4096) (h : (n * wd + 7) / 8 < m) :
    Calls Tryz.prog 23 #[.slice A m c, .int .i64 n, .int .i64 wd] w (Wd.Out2 w .i64 [] 7) := by
  obtain ⟨p1, p2⟩ := prod_le n wd hn hwd
  have e2 := mul_cast n wd
  have f3 : (n : Int) * (wd : Int) ≤ 8 * (m : Int) := by rw [e2]; omega
  clear e2
  go_enter Tryz.func23, Tryz.ntmps23
  go_wp2_with fail
  go_ret2
  exact Wd.Out2.err _ _ _ _ (Below.refl _ _)

theorem refUn_any (A : Option Addr) (m c : Nat) (n wd : Int) (bs : List Int) (w : World) (hS : Wd.Sl w .u8 A m c bs) (hB : Bt.InR 8 bs) (hm : m ≤ 1000000) :
    Calls Tryz.prog 23 #[.slice A m c, .int .i64 n, .int .i64 wd] w (Wd.Out2 w .i64 (unL bs n wd) (unE bs n wd)) := by
  have hl := hS.len
  by_cases h1 : wd < 0 ∨ 62 < wd ∨ n < 0
  · have e : unE bs n wd = 1 := if_pos h1
    rw [unL, e, if_neg (by omega)]
    exact refUn_arg A m c n wd w h1
  · by_cases h2 : 4096 < n
    · have e : unE bs n wd = 2 := by unfold unE; rw [if_neg h1, if_pos h2]
      rw [unL, e, if_neg (by omega)]
      exact refUn_long A m c n wd w (by omega) (by omega) h2
    · obtain ⟨N, rfl⟩ := Int.eq_ofNat_of_zero_le (show 0 ≤ n by omega)
      obtain ⟨W, rfl⟩ := Int.eq_ofNat_of_zero_le (show 0 ≤ wd by omega)
      by_cases h3 : bs.length < (N * W + 7) / 8
      · have e : unE bs N W = 6 := by unfold unE; rw [if_neg h1, if_neg h2]; exact if_pos h3
        rw [unL, e, if_neg (by omega)]
        exact refUn_short A m c N W w hm (by omega) (by omega) (by omega)
      · by_cases h4 : (N * W + 7) / 8 < bs.length
        · have e : unE bs N W = 7 := by unfold unE; rw [if_neg h1, if_neg h2, if_neg (show ¬ bs.length < ((N : Int).toNat * (W : Int).toNat + 7) / 8 from h3)]; exact if_pos (.inl h4)
          rw [unL, e, if_neg (by omega)]
          exact refUn_much A m c N W w hm (by omega) (by omega) (by omega)
        · have y0 : Bt.ofD 8 bs / 2 ^ (N * W) = 0 → unL bs N W = Bt.toD W N (Bt.ofD 8 bs) ∧ unE bs N W = 0 := by
            intro h5
            have e : unE bs N W = 0 := by
              unfold unE
              rw [if_neg h1, if_neg h2, if_neg (show ¬ bs.length < ((N : Int).toNat * (W : Int).toNat + 7) / 8 from h3)]
              refine if_neg ?_
              rintro (q | q)
              · exact h4 q
              · exact q h5
            rw [unL, e, if_pos rfl]
            exact ⟨rfl, rfl⟩
          have y1 : Bt.ofD 8 bs / 2 ^ (N * W) ≠ 0 → unL bs N W = [] ∧ unE bs N W = 7 := by
            intro h5
            have e : unE bs N W = 7 := by unfold unE; rw [if_neg h1, if_neg h2, if_neg (show ¬ bs.length < ((N : Int).toNat * (W : Int).toNat + 7) / 8 from h3)]; exact if_pos (.inr h5)
            rw [unL, e, if_neg (by omega)]
            exact ⟨rfl, rfl⟩
          rcases Nat.eq_zero_or_pos W with hW | hW
          · subst hW
            have hb0 : bs = [] := by
              refine List.eq_nil_of_length_eq_zero ?_
              rw [Nat.mul_zero] at h4
              omega
            subst hb0
            obtain ⟨e1, e2⟩ := y0 (by simp [Bt.ofD])
            rw [e1, e2]
            obtain rfl : m = 0 := hl
            exact refUn_zero A c N w hS (by omega)
          · exact refUn_in A m c N W bs w hS hB hm hW (by omega) (by omega) (by omega) _ _ y0 y1
end Bc
end Go.Proofs.YtnhgijlhnamolaaGreatDoor
namespace Go.Proofs.YtnhgijlhnamolaaGreatDoor
set_option maxRecDepth 20000
open Go.RowKit
namespace Bc

theorem bit_none (T : Int) (n t : Nat) (h0 : 0 ≤ T) (h1 : T < 2 ^ n) (h : n ≤ t) : Bt.toD 1 (t + 1) T = Bt.toD 1 t T ++ [0] := by
  have hp := Bt.pup h
  rw [toD1_succ, Int.ediv_eq_zero_of_lt h0 (by omega)]
  rfl

end Bc
end Go.Proofs.YtnhgijlhnamolaaGreatDoor
namespace Go.Proofs.YtnhgijlhnamolaaGreatDoor
set_option maxRecDepth 20000
open Go.RowKit
namespace Cx
open Va (Vl May ord null)
open Sc (tr tr_yes tr_no tr_iff)
open Co Dc
open Bx (Rw)
theorem res_cell2 {fn : Func} {p u : Tmp} {ty : TypeId} (h : fn.results = #[.cell p ty, .tmp u]) (tmps : Array Value) (P : Program) (w : World) :
    (results fn tmps).run P w = ((asAddr (tmps.getD p undef)).run P w).andThen fun a w₁ => ((loadVar ty a).run P w₁).andThen fun x w₂ => .ok (.tuple #[x, tmps.getD u undef]) w₂ := by
  simp only [results, h]
  simp [Sem.run_bind, Result.andThen]
theorem adds_next {l : List Vl} {k : Nat} (h : k < l.length) : adds 4096 [] (l.take (k + 1)) = (add (adds 4096 [] (l.take k)) 4096 (l.getD k default)).1 := by
  have e : l.take (k + 1) = l.take k ++ [l.getD k default] := by
    rw [List.take_succ_eq_append_getElem h]
    simp [List.getD, h]
  rw [e, adds_app]
  rfl
/-- The cells of a column that one writes whole. -/
theorem box3 {w : World} {p : Nat} {a b c x y z : Value} (h : Wd.Bx w p 25 #[a, b, c]) : Wd.Bx (((w.setCell ⟨p, 0, none⟩ x).setCell ⟨p, 1, none⟩ y).setCell ⟨p, 2, none⟩ z) p 25 #[x, y, z] := by
  unfold Wd.Bx at *
  have h1 := heap_setCell_same w p 0 _ 25 x h
  have h2 := heap_setCell_same _ p 1 _ 25 y h1
  have h3 := heap_setCell_same _ p 2 _ 25 z h2
  rw [h3]
  simp
section
variable {w : World} {p : Nat} {N : Int} {A : Option Addr} {n c : Nat} {B : Option Addr} {m d : Nat} {R : Option Addr} {r t : Nat}
theorem cb_cell (h : Cb w p N A n c B m d) (i : Nat) (v : Value) (hv : w.cell? ⟨p, i, none⟩ = some v) : v = .int .i64 N ∨ v = .slice A n c ∨ v = .slice B m d := by
  rw [h.bx.cell i] at hv
  match i, hv with
  | 0, e => exact .inl (Option.some.inj e).symm
  | 1, e => exact .inr (.inl (Option.some.inj e).symm)
  | 2, e => exact .inr (.inr (Option.some.inj e).symm)
theorem vs_ne {vs : List Vl} (h : Cb w p N A n c B m d) (k : Wd.Vs w R r t vs) : ∀ a, R = some a → vs ≠ [] → a.block ≠ p := by
  intro a ha hv
  obtain ⟨b, f, e, _, _, _, d2, _⟩ := k.cells (j := 0) (List.length_pos_iff.2 hv) rfl
  rw [e] at ha
  cases ha
  rintro rfl
  rcases cb_cell h _ _ d2 with q | q | q <;> cases q
theorem sl_ne {ys : List Int} (h : Cb w p N A n c B m d) (k : Wd.Sl w .u8 R r t ys) : ∀ a, R = some a → ys ≠ [] → a.block ≠ p := by
  intro a ha hv
  obtain ⟨b, f, e, _, hc⟩ := k.rd 0 (List.length_pos_iff.2 hv)
  rw [e] at ha
  cases ha
  rintro rfl
  rcases cb_cell h _ _ hc with q | q | q <;> cases q
theorem vs_store {vs : List Vl} (k : Wd.Vs w R r t vs) (hne : ∀ a, R = some a → vs ≠ [] → a.block ≠ p) (i : Nat) (u : Value) : Wd.Vs (w.setCell ⟨p, i, none⟩ u) R r t vs :=
  ⟨k.len, k.cap, k.max, k.nil, fun j hj => by
    obtain ⟨b, f, e, hlt, hc, h1⟩ := k.at_ j hj
    have hb := hne _ e (List.ne_nil_of_length_pos (by omega))
    exact ⟨b, f, e, by simpa using hlt, fun i v hv => (World.cell?_setCell_other _ _ _ _ (fun q => hb (by cases q; rfl))).trans (hc i v hv), h1⟩⟩
theorem sl_store {ys : List Int} (k : Wd.Sl w .u8 R r t ys) (hne : ∀ a, R = some a → ys ≠ [] → a.block ≠ p) (i : Nat) (u : Value) : Wd.Sl (w.setCell ⟨p, i, none⟩ u) .u8 R r t ys :=
  ⟨k.len, k.cap, k.max, k.nil, fun j hj => by
    obtain ⟨b, f, e, hlt, hc⟩ := k.rd j hj
    have hb := hne _ e (List.ne_nil_of_length_pos (by omega))
    exact ⟨b, f, e, by simpa using hlt, (World.cell?_setCell_other _ _ _ _ (fun q => hb (by cases q; rfl))).trans hc⟩⟩
end
end Cx
end Go.Proofs.YtnhgijlhnamolaaGreatDoor
namespace Go.Proofs.YtnhgijlhnamolaaGreatDoor
set_option maxRecDepth 20000
namespace Co
open Va (Vl May ord null)
open Sc (tr tr_yes tr_no tr_iff)
open Dc
noncomputable def raw (l : List Vl) : List Int := l.map (fnd (adds 4096 [] l))
theorem raw_len (l : List Vl) : (raw l).length = l.length := by simp [raw]
theorem add_raw {l : List Vl} (hl : l.length ≤ 4096) {i : Nat} (hi : i < l.length) (hm : May (l.getD i default)) : add (adds 4096 [] (l.take i)) 4096 (l.getD i default) = (adds 4096 [] (l.take (i + 1)), (raw l).getD i 0, 0) := by
  have hn := Cx.adds_next hi
  have h0 : (add (adds 4096 [] (l.take i)) 4096 (l.getD i default)).2.2 = 0 := by
    by_cases q : l.getD i default ∈ adds 4096 [] (l.take i)
    · rw [add_old hm q]
    · rw [add_new hm q (by have := adds_len 4096 [] (l.take i); simp only [List.length_nil, List.length_take] at this; simp [lim]; omega)]
  obtain ⟨n, h1, h2⟩ := add_num h0
  have h3 : (adds 4096 [] l)[n]? = some (l.getD i default) := by
    have hp : adds 4096 [] (l.take (i + 1)) <+: adds 4096 [] l := by
      have := adds_pre 4096 (adds 4096 [] (l.take (i + 1))) (l.drop (i + 1))
      rwa [← adds_app, List.take_append_drop] at this
    rw [← hn] at h2
    obtain ⟨t, ht⟩ := hp
    rw [← ht, List.getElem?_append_left (List.getElem?_eq_some_iff.1 h2).1]
    exact h2
  have h4 : (raw l).getD i 0 = (n : Int) := by
    unfold raw
    rw [List.getD_eq_getElem?_getD, List.getElem?_map, List.getElem?_eq_getElem hi, Option.map_some, Option.getD_some]
    have : l[i] = l.getD i default := by simp [List.getD, hi]
    rw [this]
    exact fnd_at (dct_dis (l := l)).nd h3
  rw [h4, ← h1, hn]
  exact Prod.ext rfl (Prod.ext rfl h0)
theorem tos_raw {l : List Vl} (hl : l.length ≤ 4096) (hm : ∀ v ∈ l, May v) {i : Nat} (hi : i < l.length) : ∃ k : Nat, (raw l).getD i 0 = (k : Int) ∧ k < (tos (adds 4096 [] l)).length ∧ (tos (adds 4096 [] l)).getD k 0 = (ids l).getD i 0 := by
  have hx : l.getD i default ∈ l := by
    rw [List.getD_eq_getElem?_getD, List.getElem?_eq_getElem hi]
    exact List.getElem_mem hi
  have e : l[i] = l.getD i default := by simp [List.getD, hi]
  have hL : l.getD i default ∈ adds 4096 [] l := (adds_mem l (by simp [lim]; omega) _).2 (.inr ⟨hx, hm _ hx⟩)
  obtain ⟨k, h1, h2, -⟩ := fnd_some hL
  have h3 := tos_at h2
  have hk := (List.getElem?_eq_some_iff.1 h3).1
  refine ⟨k, ?_, hk, ?_⟩
  · unfold raw
    rw [List.getD_eq_getElem?_getD, List.getElem?_map, List.getElem?_eq_getElem hi, Option.map_some, Option.getD_some, e]
    exact h1
  · have e2 : (ids l).getD i 0 = fnd (dct l) (l.getD i default) := by
      unfold ids
      rw [List.getD_eq_getElem?_getD, List.getElem?_map, List.getElem?_eq_getElem hi, Option.map_some, Option.getD_some, e]
    rw [e2, List.getD_eq_getElem?_getD, h3, Option.getD_some]
    exact (fnd_at (up_nodup (dct_ris (l := l)).2) (srt_place (dct_dis (l := l)).may (dct_dis (l := l)).nd hL)).symm
/-- The first k of a, and b behind. -/
def blend (a b : List Int) (k : Nat) : List Int := a.take k ++ b.drop k
theorem blend_zero (a b : List Int) : blend a b 0 = b := by simp [blend]
theorem blend_len {a b : List Int} (h : a.length = b.length) (k : Nat) : (blend a b k).length = b.length := by simp [blend]; omega
theorem blend_all {a b : List Int} (h : a.length = b.length) : blend a b b.length = a := by simp [blend, ← h]
theorem blend_at {a b : List Int} (h : a.length = b.length) {k : Nat} (hk : k < b.length) : (blend a b k).getD k 0 = b.getD k 0 := by
  unfold blend
  have e : (a.take k).length = k := by simp; omega
  rw [List.getD_eq_getElem?_getD, List.getElem?_append_right (by omega), e, Nat.sub_self]
  simp [List.getElem?_drop, List.getD]
theorem blend_set {a b : List Int} (h : a.length = b.length) {k : Nat} (hk : k < b.length) : (blend a b k).set k (a.getD k 0) = blend a b (k + 1) := by
  refine List.ext_getElem (by simp [blend_len h]) fun i h1 h2 => ?_
  simp only [blend_len h, List.length_set] at h1 h2
  rw [List.getElem_set]
  simp only [blend, List.getElem_append, List.length_take, List.getElem_take, List.getElem_drop]
  by_cases e : k = i
  · subst e
    rw [if_pos rfl, dif_pos (by omega)]
    simp [List.getD, show k < a.length by omega]
  · rw [if_neg e]
    by_cases q : i < min k a.length
    · rw [dif_pos q, dif_pos (by omega)]
    · rw [dif_neg q, dif_neg (by omega)]
      congr 1
      omega
/-- What number answers. -/
noncomputable def nrs (l : List Vl) : List Vl × List Int × Int := if tr (∀ v ∈ l, May v) = true then (dct l, ids l, 0) else ([], [], 1)
theorem nrs_yes {l : List Vl} (h : ∀ v ∈ l, May v) : nrs l = (dct l, ids l, 0) := if_pos (tr_yes h)
theorem nrs_no {l : List Vl} (h : ¬ ∀ v ∈ l, May v) : nrs l = ([], [], 1) := by unfold nrs; rw [tr_no h]; rfl
end Co
end Go.Proofs.YtnhgijlhnamolaaGreatDoor
