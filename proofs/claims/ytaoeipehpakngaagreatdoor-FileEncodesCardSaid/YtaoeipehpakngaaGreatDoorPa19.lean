/- What the reference's Unpack does. What the reference's Pack does. -/
import Derived.Test.YtaoeipehpakngaaGreatDoorPa05
namespace Go.Proofs.YtaoeipehpakngaaGreatDoor
set_option maxRecDepth 20000
open Go.RowKit
namespace Bc
theorem toD_next (wd k : Nat) (v : Int) : Bt.toD wd (k + 1) v = Bt.toD wd k v ++ [Bt.dig wd v k] := by
  rw [Bt.toD_add]
  congr 1
  simp [Bt.toD, Bt.dig]
theorem ofD_none (w n : Nat) : Bt.ofD w (List.replicate n 0) = 0 := by
  induction n with
  | zero => rfl
  | succ n ih =>
    show (0 : Int) + 2 ^ w * Bt.ofD w (List.replicate n 0) = 0
    rw [ih]; simp
theorem bits_none (v : Int) (a b : Nat) (hab : a ≤ b) (h0 : 0 ≤ v) (h1 : v < 2 ^ b) (h : ∀ t, a ≤ t → t < b → Bt.dig 1 v t = 0) : v / 2 ^ a = 0 := by
  have hp := Bt.p0 a
  obtain ⟨d, rfl⟩ : ∃ d, b = a + d := ⟨b - a, by omega⟩
  have hu0 : 0 ≤ v / 2 ^ a := Int.ediv_nonneg h0 (by omega)
  have hu1 : v / 2 ^ a < 2 ^ (1 * d) := by
    rw [Nat.one_mul]
    rw [Int.pow_add, Int.mul_comm] at h1
    exact Int.ediv_lt_of_lt_mul hp h1
  have e := Bt.ofD_toD 1 d (v / 2 ^ a) hu0 hu1
  have e2 : Bt.toD 1 d (v / 2 ^ a) = List.replicate d 0 := by
    refine Bt.ext_getD (by simp [Bt.toD_len]) fun i hi => ?_
    rw [Bt.toD_len] at hi
    rw [Bt.toD_get _ _ _ _ hi]
    have h2 := h (a + i) (by omega) (by omega)
    unfold Bt.dig at h2 ⊢
    rw [Nat.one_mul, Int.pow_add, ← Int.ediv_ediv_of_nonneg (by omega)] at h2
    rw [Nat.one_mul, h2]
    simp [List.getD, hi]
  rw [e2, ofD_none] at e
  exact e.symm
set_option maxHeartbeats 1600000 in
theorem refUn_in (A : Option Addr) (m c n wd : Nat) (bs : List Int) (w : World) (hS : Wd.Sl w .u8 A m c bs) (hB : Bt.InR 8 bs) (hm : m ≤ 1000000) (hwd0 : 1 ≤ wd) (hwd : wd ≤ 62) (hn : n ≤ 4096) (hfit : m = (n * wd + 7) / 8)
    (ys : List Int) (er : Int) (y0 : Bt.ofD 8 bs / 2 ^ (n * wd) = 0 → ys = Bt.toD wd n (Bt.ofD 8 bs) ∧ er = 0) (y1 : Bt.ofD 8 bs / 2 ^ (n * wd) ≠ 0 → ys = [] ∧ er = 7) :
    Calls Tryz.prog 100 #[.slice A m c, .int .i64 n, .int .i64 wd] w (Wd.Out2 w .i64 ys er) := by
  obtain ⟨i0, hi, hz0, hz1, hz2⟩ := info_parts info_int
  obtain ⟨p1, p2⟩ := prod_le n wd hn hwd
  have E2 := Lib.hid (mul_cast n wd)
  have Hl := Lib.hid hS.len
  have Y0 := Lib.hid y0
  have Y1 := Lib.hid y1
  have f1 : m ≤ (n * wd + 7) / 8 := by omega
  have f2 : (n * wd + 7) / 8 ≤ m := by omega
  have f3 : n * wd ≤ 8 * m := by omega
  have d1 : decide ((wd : Int) < 0) = false := decide_eq_false (by omega)
  have d2 : decide (62 < (wd : Int)) = false := decide_eq_false (by omega)
  have d3 : decide ((n : Int) < 0) = false := decide_eq_false (by omega)
  clear hfit y0 y1
  go_enter Tryz.func100, Tryz.ntmps100
  go_wp2_with fail
  refine (spread_any A m c bs w hS hB hm).mono ?_
  rintro e w1 ⟨A1, n1, c1, rfl, hS1, hB1⟩
  have hn1 : n1 = 8 * m := by have := hS1.len; rw [Bt.toD_len] at this; exact this
  have hc1 := hS1.cap
  have hx1 := hS1.max
  unfold maxLen at hx1
  subst hn1
  clear hS
  go_wp2_with fail
  go_loopw [9, 10] (fun v i wr => ∃ (k : Nat), i = .int .i64 k ∧ k ≤ n ∧ wr.ownsRow w1.heap.size 3 1 v (Bt.toD wd k (Bt.ofD 8 bs)).length ((Bt.toD wd k (Bt.ofD 8 bs)).map (Value.int .i64)) ∧ Below w1.heap.size w1 wr) (fun _ i _ => n - (intOf i).toNat)
  case atStart => exact ⟨0, rfl, Nat.zero_le _, World.ownsRow_nil _ _ _ _, Below.refl _ _⟩
  case round =>
    obtain ⟨k, rfl, hk, hown, hb⟩ := hrel
    by_cases hlt : k < n
    · have q0 : (k + 1) * wd ≤ n * wd := Nat.mul_le_mul_right wd hlt
      have e1 : ((k : Int) + 1) * (wd : Int) = (((k + 1) * wd : Nat) : Int) := by simp
      have e2 := mul_cast k wd
      have q1 : ((k : Int) + 1) * (wd : Int) ≤ 8 * (m : Int) := by rw [e1]; omega
      have q2 : 0 ≤ ((k : Int) + 1) * (wd : Int) := by rw [e1]; omega
      have q3 : (k : Int) * (wd : Int) ≤ ((k : Int) + 1) * (wd : Int) := by rw [e1, e2, Nat.add_mul]; omega
      have q4 : 0 ≤ (k : Int) * (wd : Int) := by rw [e2]; omega
      have q5 : k * wd < (k + 1) * wd := by rw [Nat.add_mul]; omega
      have hfin : Bt.ofD 1 (((Bt.toD 1 (8 * m) (Bt.ofD 8 bs)).drop (k * wd)).take ((k + 1) * wd - k * wd)) = Bt.dig wd (Bt.ofD 8 bs) k := by
        rw [next_mul, Nat.mul_comm k wd]
        exact Bt.ofD_cut wd (8 * m) k _ (by rw [Nat.mul_comm wd k]; rw [Nat.add_mul] at q0; omega)
      have Hfin := Lib.hid hfin
      have Hn := Lib.hid (next_mul k wd)
      have hsz := hb.size
      have hln' : (Bt.toD wd k (Bt.ofD 8 bs)).length ≤ 4096 := by rw [Bt.toD_len]; omega
      have Hnext := Lib.hid (toD_next wd k (Bt.ofD 8 bs))
      have hd0 := Bt.dig_lo wd (Bt.ofD 8 bs) k
      clear e1 e2 hfin
      have hM := (hS1.below hb).mid' (k * wd) ((k + 1) * wd) (by omega) (by omega) (by omega)
      go_wp2_with fail
      refine (value_any _ _ _ _ wr hM (bits_cut _ _ _ _) (by rw [Hn.out]; omega)).mono ?_
      rintro e w2 ⟨rfl, rfl⟩
      rw [Hfin.out]
      clear hM
      go_wp2_with (at_builtin; refine Wd.wpList_app _ rfl (.tmp 46) (.tmp 57) 25 rfl w1.heap.size 3 i0 _ .i64 8 Tryz.underlying25 hi hz0 hz1 hz2 rfl _ (Bt.toD wd k (Bt.ofD 8 bs)) rfl (hown.alloc _) (wr.heap.size + 1) _ 1 1 [Bt.dig wd (Bt.ofD 8 bs) k] rfl rfl (by simp) (Wd.Rd.lit wr .i64 [Bt.dig wd (Bt.ofD 8 bs) k] _ _ rfl) (by simp; omega) (by simp [maxLen]; omega) (by simp; omega) ?_; intro v' w3 hown3 hgrow)
      have hb3 : Below w1.heap.size w1 w3 := (hb.alloc hsz _).grown hgrow (by simp; omega) (fun g hg => (hown.lt g hg).1)
      rw [← Hnext.out] at hown3
      clear hown hgrow hb
      go_roundw
      case rel => exact ⟨k + 1, by go_num, by omega, hown3, hb3⟩
      case measure => simp [intOf]; omega
    · obtain rfl : k = n := by omega
      obtain ⟨A4, n4, c4, rfl, hS4⟩ := Wd.Sl.of_own hown
      have hS1r := hS1.below hb
      have hW : Below w.heap.size w wr := hB1.trans (hb.mono hB1.size)
      obtain ⟨wo, rfl⟩ : ∃ wo : World, wo = wr := ⟨_, rfl⟩
      clear hown hS1 hb hlt hk hB1
      go_wp2_with fail
      go_loop [11] (fun i => ∃ j : Nat, i = .int .i64 j ∧ k * wd ≤ j ∧ j ≤ 8 * m ∧ ∀ t, k * wd ≤ t → t < j → Bt.dig 1 (Bt.ofD 8 bs) t = 0) (fun i => 8 * m - (intOf i).toNat)
      case atStart => exact ⟨k * wd, by rw [E2.out], Nat.le_refl _, f3, fun t h1 h2 => by omega⟩
      case round =>
        obtain ⟨j, rfl, hj0, hj, hall⟩ := hrel
        have Hall := Lib.hid hall
        clear hall
        by_cases hlt : j < 8 * m
        · obtain ⟨b, o, hA, hbB, hcell⟩ := hS1r.rd j (by rw [Bt.toD_len]; exact hlt)
          rw [Bt.toD_get _ _ _ _ hlt] at hcell
          subst hA
          by_cases hx : Bt.dig 1 (Bt.ofD 8 bs) j = 0
          · rw [hx] at hcell
            have Hx := Lib.hid hx
            clear hx
            go_wp2_with fail
            go_round
            case rel =>
              refine ⟨j + 1, by go_num, by omega, by omega, fun t h1 h2 => ?_⟩
              rcases (show t < j ∨ t = j by omega) with h | h
              · exact Hall.out t h1 h
              · rw [h]; exact Hx.out
            case measure => simp [intOf]; omega
          · have hb1 : (Bt.dig 1 (Bt.ofD 8 bs) j != 0) = true := by rw [bne_iff_ne]; exact hx
            have Hx := Lib.hid hx
            clear hx
            have hne : Bt.ofD 8 bs / 2 ^ (k * wd) ≠ 0 := by
              intro e
              refine Hx.out ?_
              unfold Bt.dig
              obtain ⟨d, rfl⟩ : ∃ d, j = k * wd + d := ⟨j - k * wd, by omega⟩
              have := Bt.p0 (k * wd)
              rw [Nat.one_mul, Int.pow_add, ← Int.ediv_ediv_of_nonneg (by omega), e]
              simp
            obtain ⟨rfl, rfl⟩ := Y1.out hne
            clear hne
            go_wp2_with fail
            go_ret2
            exact Wd.Out2.err _ _ _ _ hW
        · have hz : Bt.ofD 8 bs / 2 ^ (k * wd) = 0 :=
            bits_none _ (k * wd) (8 * m) f3 (Bt.ofD_lo hB) (by rw [Hl.out]; exact Bt.ofD_hi hB) (fun t h1 h2 => Hall.out t h1 (by omega))
          obtain ⟨rfl, rfl⟩ := Y0.out hz
          clear hz
          go_wp2_with fail
          go_ret2
          exact ⟨_, _, _, rfl, hS4, hW⟩
set_option maxHeartbeats 1600000 in
theorem refUn_zero (A : Option Addr) (c n : Nat) (w : World) (hS : Wd.Sl w .u8 A 0 c []) (hn : n ≤ 4096) :
    Calls Tryz.prog 100 #[.slice A 0 c, .int .i64 n, .int .i64 0] w (Wd.Out2 w .i64 (Bt.toD 0 n 0) 0) := by
  obtain ⟨i0, hi, hz0, hz1, hz2⟩ := info_parts info_int
  have d3 : decide ((n : Int) < 0) = false := decide_eq_false (by omega)
  go_enter Tryz.func100, Tryz.ntmps100
  go_wp2_with fail
  refine (spread_any A 0 c [] w hS (fun x hx => by simp at hx) (by omega)).mono ?_
  rintro e w1 ⟨A1, n1, c1, rfl, hS1, hB1⟩
  have hn1 : n1 = 0 := by have := hS1.len; rw [Bt.toD_len] at this; exact this
  have hx1 := hS1.max
  unfold maxLen at hx1
  subst hn1
  have e0 : Bt.toD 1 (8 * 0) (Bt.ofD 8 []) = [] := rfl
  rw [e0] at hS1
  clear hS e0
  go_wp2_with fail
  go_loopw [9, 10] (fun v i wr => ∃ (k : Nat), i = .int .i64 k ∧ k ≤ n ∧ wr.ownsRow w1.heap.size 3 1 v (Bt.toD 0 k 0).length ((Bt.toD 0 k 0).map (Value.int .i64)) ∧ Below w1.heap.size w1 wr) (fun _ i _ => n - (intOf i).toNat)
  case atStart => exact ⟨0, rfl, Nat.zero_le _, World.ownsRow_nil _ _ _ _, Below.refl _ _⟩
  case round =>
    obtain ⟨k, rfl, hk, hown, hb⟩ := hrel
    by_cases hlt : k < n
    · have hsz := hb.size
      have hln' : (Bt.toD 0 k 0).length ≤ 4096 := by rw [Bt.toD_len]; omega
      have hnext := toD_next 0 k 0
      rw [dig_none] at hnext
      have Hnext := Lib.hid hnext
      clear hnext
      have hM := hS1.below hb
      go_wp2_with fail
      refine (value_any _ _ _ _ wr hM (fun x hx => by simp at hx) (by omega)).mono ?_
      rintro e w2 ⟨rfl, rfl⟩
      clear hM
      have e0 : Bt.ofD 1 [] = 0 := rfl
      rw [e0]
      clear e0
      go_wp2_with (at_builtin; refine Wd.wpList_app _ rfl (.tmp 46) (.tmp 57) 25 rfl w1.heap.size 3 i0 _ .i64 8 Tryz.underlying25 hi hz0 hz1 hz2 rfl _ (Bt.toD 0 k 0) rfl (hown.alloc _) (wr.heap.size + 1) _ 1 1 [0] rfl rfl (by simp) (Wd.Rd.lit wr .i64 [0] _ _ rfl) (by simp; omega) (by simp [maxLen]; omega) (by simp; omega) ?_; intro v' w3 hown3 hgrow)
      have hb3 : Below w1.heap.size w1 w3 := (hb.alloc hsz _).grown hgrow (by simp; omega) (fun g hg => (hown.lt g hg).1)
      rw [← Hnext.out] at hown3
      clear hown hgrow hb
      go_roundw
      case rel => exact ⟨k + 1, by go_num, by omega, hown3, hb3⟩
      case measure => simp [intOf]; omega
    · obtain rfl : k = n := by omega
      obtain ⟨A4, n4, c4, rfl, hS4⟩ := Wd.Sl.of_own hown
      have hW : Below w.heap.size w wr := hB1.trans (hb.mono hB1.size)
      clear hown hS1 hb hlt hk hB1
      go_wp2_with fail
      refine wp_loop_rounds 1 ?_
      rw [rounds_succ]
      go_wp2_with fail
      go_ret2
      exact ⟨_, _, _, rfl, hS4, hW⟩
set_option maxHeartbeats 800000 in
theorem refUn_arg (A : Option Addr) (m c : Nat) (n wd : Int) (w : World) (h : wd < 0 ∨ 62 < wd ∨ n < 0) :
    Calls Tryz.prog 100 #[.slice A m c, .int .i64 n, .int .i64 wd] w (Wd.Out2 w .i64 [] 1) := by
  rcases (show wd < 0 ∨ (0 ≤ wd ∧ 62 < wd) ∨ (0 ≤ wd ∧ wd ≤ 62 ∧ n < 0) by omega) with r | ⟨r, r2⟩ | ⟨r, r2, r3⟩
  · clear h
    go_enter Tryz.func100, Tryz.ntmps100
    go_wp2_with fail
    go_ret2
    exact Wd.Out2.err _ _ _ _ (Below.refl _ _)
  · clear h
    go_enter Tryz.func100, Tryz.ntmps100
    go_wp2_with fail
    go_ret2
    exact Wd.Out2.err _ _ _ _ (Below.refl _ _)
  · clear h
    go_enter Tryz.func100, Tryz.ntmps100
    go_wp2_with fail
    go_ret2
    exact Wd.Out2.err _ _ _ _ (Below.refl _ _)
theorem refUn_long (A : Option Addr) (m c : Nat) (n wd : Int) (w : World) (h1 : 0 ≤ wd) (h2 : wd ≤ 62) (h3 : 4096 < n) :
    Calls Tryz.prog 100 #[.slice A m c, .int .i64 n, .int .i64 wd] w (Wd.Out2 w .i64 [] 2) := by
  have h4 : 0 ≤ n := by omega
  go_enter Tryz.func100, Tryz.ntmps100
  go_wp2_with fail
  go_ret2
  exact Wd.Out2.err _ _ _ _ (Below.refl _ _)
theorem refUn_short (A : Option Addr) (m c n wd : Nat) (w : World) (hm : m ≤ 1000000) (hwd : wd ≤ 62) (hn : n ≤ 4096) (h : m < (n * wd + 7) / 8) :
    Calls Tryz.prog 100 #[.slice A m c, .int .i64 n, .int .i64 wd] w (Wd.Out2 w .i64 [] 6) := by
  obtain ⟨p1, p2⟩ := prod_le n wd hn hwd
  have e2 := mul_cast n wd
  have f3 : 8 * (m : Int) < (n : Int) * (wd : Int) := by rw [e2]; omega
  clear e2 h
  go_enter Tryz.func100, Tryz.ntmps100
  go_wp2_with fail
  go_ret2
  exact Wd.Out2.err _ _ _ _ (Below.refl _ _)
theorem refUn_much (A : Option Addr) (m c n wd : Nat) (w : World) (hm : m ≤ 1000000) (hwd : wd ≤ 62) (hn : n ≤ 4096) (h : (n * wd + 7) / 8 < m) :
    Calls Tryz.prog 100 #[.slice A m c, .int .i64 n, .int .i64 wd] w (Wd.Out2 w .i64 [] 7) := by
  obtain ⟨p1, p2⟩ := prod_le n wd hn hwd
  have e2 := mul_cast n wd
  have f3 : (n : Int) * (wd : Int) ≤ 8 * (m : Int) := by rw [e2]; omega
  clear e2
  go_enter Tryz.func100, Tryz.ntmps100
  go_wp2_with fail
  go_ret2
  exact Wd.Out2.err _ _ _ _ (Below.refl _ _)
theorem refUn_any (A : Option Addr) (m c : Nat) (n wd : Int) (bs : List Int) (w : World) (hS : Wd.Sl w .u8 A m c bs) (hB : Bt.InR 8 bs) (hm : m ≤ 1000000) :
    Calls Tryz.prog 100 #[.slice A m c, .int .i64 n, .int .i64 wd] w (Wd.Out2 w .i64 (unL bs n wd) (unE bs n wd)) := by
  have hl := hS.len
  by_cases h1 : wd < 0 ∨ 62 < wd ∨ n < 0
  · have e : unE bs n wd = 1 := if_pos h1
    rw [unL, e, if_neg (by omega)]
    exact refUn_arg A m c n wd w h1
  · by_cases h2 : 4096 < n
    · have e : unE bs n wd = 2 := by unfold unE; rw [if_neg h1, if_pos h2]
      rw [unL, e, if_neg (by omega)]
      exact refUn_long A m c n wd w (by omega) (by omega) h2
    · obtain ⟨N, rfl⟩ := Int.eq_ofNat_of_zero_le (show 0 ≤ n by omega)
      obtain ⟨W, rfl⟩ := Int.eq_ofNat_of_zero_le (show 0 ≤ wd by omega)
      by_cases h3 : bs.length < (N * W + 7) / 8
      · have e : unE bs N W = 6 := by unfold unE; rw [if_neg h1, if_neg h2]; exact if_pos h3
        rw [unL, e, if_neg (by omega)]
        exact refUn_short A m c N W w hm (by omega) (by omega) (by omega)
      · by_cases h4 : (N * W + 7) / 8 < bs.length
        · have e : unE bs N W = 7 := by unfold unE; rw [if_neg h1, if_neg h2, if_neg (show ¬ bs.length < ((N : Int).toNat * (W : Int).toNat + 7) / 8 from h3)]; exact if_pos (.inl h4)
          rw [unL, e, if_neg (by omega)]
          exact refUn_much A m c N W w hm (by omega) (by omega) (by omega)
        · have y0 : Bt.ofD 8 bs / 2 ^ (N * W) = 0 → unL bs N W = Bt.toD W N (Bt.ofD 8 bs) ∧ unE bs N W = 0 := by
            intro h5
            have e : unE bs N W = 0 := by
              unfold unE
              rw [if_neg h1, if_neg h2, if_neg (show ¬ bs.length < ((N : Int).toNat * (W : Int).toNat + 7) / 8 from h3)]
              refine if_neg ?_
              rintro (q | q)
              · exact h4 q
              · exact q h5
            rw [unL, e, if_pos rfl]
            exact ⟨rfl, rfl⟩
          have y1 : Bt.ofD 8 bs / 2 ^ (N * W) ≠ 0 → unL bs N W = [] ∧ unE bs N W = 7 := by
            intro h5
            have e : unE bs N W = 7 := by unfold unE; rw [if_neg h1, if_neg h2, if_neg (show ¬ bs.length < ((N : Int).toNat * (W : Int).toNat + 7) / 8 from h3)]; exact if_pos (.inr h5)
            rw [unL, e, if_neg (by omega)]
            exact ⟨rfl, rfl⟩
          rcases Nat.eq_zero_or_pos W with hW | hW
          · subst hW
            have hb0 : bs = [] := by
              refine List.eq_nil_of_length_eq_zero ?_
              rw [Nat.mul_zero] at h4
              omega
            subst hb0
            obtain ⟨e1, e2⟩ := y0 (by simp [Bt.ofD])
            rw [e1, e2]
            obtain rfl : m = 0 := hl
            exact refUn_zero A c N w hS (by omega)
          · exact refUn_in A m c N W bs w hS hB hm hW (by omega) (by omega) (by omega) _ _ y0 y1
end Bc
namespace Bc
theorem bit_none (T : Int) (n t : Nat) (h0 : 0 ≤ T) (h1 : T < 2 ^ n) (h : n ≤ t) : Bt.toD 1 (t + 1) T = Bt.toD 1 t T ++ [0] := by
  have hp := Bt.pup h
  rw [toD1_succ, Int.ediv_eq_zero_of_lt h0 (by omega)]
  rfl
set_option maxHeartbeats 2000000 in
theorem refPack_ok (A : Option Addr) (m c wd : Nat) (l : List Int) (w : World) (hS : Wd.Sl w .i64 A m c l) (hB : Bt.InR wd l) (hm : m ≤ 4096) (hwd : wd ≤ 62) :
    Calls Tryz.prog 73 #[.slice A m c, .int .i64 wd] w (Wd.Out2 w .u8 (Bt.toD 8 ((m * wd + 7) / 8) (Bt.ofD wd l)) 0) := by
  obtain ⟨i0, hi, hz0, hz1, hz2⟩ := info_parts info_int
  obtain ⟨j0, hj0, yz0, yz1, yz2⟩ := info_parts info_u8
  obtain ⟨p3, p4⟩ := pow62 wd hwd
  have hpr := Nat.mul_le_mul hm hwd
  have f1 : (m * wd + 7) / 8 ≤ 31745 := by omega
  have f2 : wd * m ≤ 8 * ((m * wd + 7) / 8) := by rw [Nat.mul_comm wd m]; omega
  have f3 : 8 * ((m * wd + 7) / 8) < wd * m + 8 := by rw [Nat.mul_comm wd m]; omega
  have hl := hS.len
  have Hl := Lib.hid hl
  have HB := Lib.hid hB
  have hcap := hS.cap
  have hT0 := Bt.ofD_lo hB
  have hT1 : Bt.ofD wd l < 2 ^ (wd * m) := by rw [hl]; exact Bt.ofD_hi hB
  have HT0 := Lib.hid hT0
  have HT1 := Lib.hid hT1
  have d1 : decide ((wd : Int) < 0) = false := decide_eq_false (by omega)
  have d2 : decide (62 < (wd : Int)) = false := decide_eq_false (by omega)
  clear hl hB hT0 hT1 hpr
  generalize hN : (m * wd + 7) / 8 = N at *
  clear hN
  go_enter Tryz.func73, Tryz.ntmps73
  go_wp2_with fail
  go_loopw [6, 7] (fun v i wr => ∃ (k : Nat), i = .int .i64 k ∧ k ≤ m ∧ wr.ownsRow w.heap.size 3 1 v (Bt.toD 1 (wd * k) (Bt.ofD wd (l.take k))).length ((Bt.toD 1 (wd * k) (Bt.ofD wd (l.take k))).map (Value.int .i64)) ∧ Below w.heap.size w wr) (fun _ i _ => m - (intOf i).toNat)
  case atStart => exact ⟨0, rfl, Nat.zero_le _, World.ownsRow_nil _ _ _ _, Below.refl _ _⟩
  case round =>
    obtain ⟨k, rfl, hk, hown, hb⟩ := hrel
    have hsz := hb.size
    have hln' : (Bt.toD 1 (wd * k) (Bt.ofD wd (l.take k))).length ≤ 300000 := by
      rw [Bt.toD_len]
      have := Nat.mul_le_mul hwd (show k ≤ 4096 by omega)
      omega
    by_cases hlt : k < m
    · have hkl : k < l.length := by rw [← Hl.out]; exact hlt
      obtain ⟨b, o, rfl, hbB, hcell0⟩ := hS.rd k hkl
      have hcell := (hb.cell (p := ⟨b, o + k, none⟩) hbB).trans hcell0
      obtain ⟨x, hx⟩ : ∃ x, x = l.getD k 0 := ⟨_, rfl⟩
      have hx2 := HB.out x (by rw [hx]; simp [List.getD, hkl])
      obtain ⟨hx0, hx1⟩ := hx2
      have hx3 : x ≤ 9223372036854775807 := by omega
      have hwx : wid x ≤ wd := (wid_le wd x).2 hx1
      rw [← hx] at hcell
      have e : Bt.toD 1 (wd * (k + 1)) (Bt.ofD wd (l.take (k + 1))) = Bt.toD 1 (wd * k) (Bt.ofD wd (l.take k)) ++ Bt.toD 1 wd x := by
        rw [take_next l k hkl, ← hx, Nat.mul_add, Nat.mul_one]
        exact Bt.toD_snoc (InR.take HB.out k) (by rw [List.length_take, Nat.min_eq_left (by omega)])
      have He := Lib.hid e
      clear hx hcell0 e hkl
      generalize Bt.toD 1 (wd * k) (Bt.ofD wd (l.take k)) = xs at *
      go_wp2_with fail
      refine (refWidth_any x wr (by omega) (by omega)).mono ?_
      rintro e w' ⟨rfl, rfl⟩
      go_wp2_with fail
      refine (number_any x wd wr hx0 hx3 hwd).mono ?_
      rintro e w1 ⟨A1, n1, c1, rfl, hS1, hB1⟩
      have hown1 := Wd.own_below hown hB1
      have hb1 : Below w.heap.size w w1 := hb.trans (hB1.mono hsz)
      have Hn1 := Lib.hid hS1.len
      have hl8 := Bt.toD_len 1 wd x
      have hl8' : (Bt.toD 1 wd x).length ≤ 62 := by omega
      have hlt1 := hown.lt
      have hsz1 := hb1.size
      clear hown hl8 hB1 hb
      go_wp2_with (at_builtin; refine Wd.wpList_app _ rfl (.tmp 41) (.tmp 47) 25 rfl w.heap.size 3 i0 _ .i64 8 Tryz.underlying25 hi hz0 hz1 hz2 rfl _ xs rfl hown1 w1.heap.size A1 n1 c1 (Bt.toD 1 wd x) rfl Hn1.out hS1.nil hS1.rd (by omega) (by unfold maxLen; omega) hsz1 ?_; intro v' w2 hown2 hgrow)
      have hb2 : Below w.heap.size w w2 := hb1.grown hgrow hsz1 (fun g hg => (hlt1 g hg).1)
      rw [← He.out] at hown2
      clear hown1 hgrow hb1 hlt1 hS1
      go_roundw
      case rel => exact ⟨k + 1, by go_num, by omega, hown2, hb2⟩
      case measure => simp [intOf]; omega
    · obtain rfl : k = m := by omega
      rw [List.take_of_length_le (by rw [← Hl.out]; exact Nat.le_refl _)] at hown
      obtain ⟨wo, rfl⟩ : ∃ wo : World, wo = wr := ⟨_, rfl⟩
      clear hlt hk hln' hS hcap
      go_wp2_with fail
      go_loopw [6] (fun v wr => ∃ (t : Nat) (A : Option Addr) (c : Nat), v = .slice A t c ∧ wd * k ≤ t ∧ t ≤ 8 * N ∧ wr.ownsRow w.heap.size 3 1 v (Bt.toD 1 t (Bt.ofD wd l)).length ((Bt.toD 1 t (Bt.ofD wd l)).map (Value.int .i64)) ∧ Below w.heap.size w wr) (fun v _ => 8 * N - Wd.lenOf v)
      case atStart =>
        obtain ⟨A2, c2, rfl⟩ := Wd.own_slice hown (Bt.toD_len _ _ _)
        exact ⟨wd * k, A2, c2, rfl, Nat.le_refl _, f2, hown, hb⟩
      case round =>
        clear hown hb hsz
        obtain ⟨t, A2, c2, rfl, ht0, ht1, hown, hb⟩ := hrel
        have hsz := hb.size
        have hln' : (Bt.toD 1 t (Bt.ofD wd l)).length ≤ 300000 := by rw [Bt.toD_len]; omega
        by_cases hlt : 0 < t % 8
        · have e := bit_none (Bt.ofD wd l) (wd * k) t HT0.out HT1.out ht0
          have He := Lib.hid e
          clear e
          have ht2 : t + 1 ≤ 8 * N := by omega
          go_wp2_with (at_builtin; refine Wd.wpList_app _ rfl (.tmp 53) (.tmp 54) 25 rfl w.heap.size 3 i0 _ .i64 8 Tryz.underlying25 hi hz0 hz1 hz2 rfl _ (Bt.toD 1 t (Bt.ofD wd l)) rfl (hown.alloc _) (wr.heap.size + 1) _ 1 1 [0] rfl rfl (by simp) (Wd.Rd.lit wr .i64 [0] _ _ rfl) (by simp; omega) (by simp [maxLen]; omega) (by simp; omega) ?_; intro v' w2 hown2 hgrow)
          have hb2 : Below w.heap.size w w2 := (hb.alloc hsz _).grown hgrow (by simp; omega) (fun g hg => (hown.lt g hg).1)
          rw [← He.out] at hown2
          obtain ⟨A3, c3, rfl⟩ := Wd.own_slice hown2 (Bt.toD_len _ _ _)
          clear hown hgrow hb
          go_roundw
          case rel => exact ⟨t + 1, A3, c3, rfl, by omega, ht2, hown2, hb2⟩
          case measure => simp [Wd.lenOf]; omega
        · obtain rfl : t = 8 * N := by omega
          obtain ⟨_, A3, c3, e3, g1, g2, g3, g4⟩ := Wd.own_form hown
          have hS2 : Wd.Sl wr .i64 A2 (8 * N) c2 (Bt.toD 1 (8 * N) (Bt.ofD wd l)) := by
            rw [Bt.toD_len] at e3 g1
            cases e3
            exact ⟨by rw [Bt.toD_len], g1, g2, g3, g4⟩
          have hc2 := hS2.cap
          have hx2 := hS2.max
          unfold maxLen at hx2
          obtain ⟨w2, rfl⟩ : ∃ w2 : World, w2 = wr := ⟨_, rfl⟩
          clear hown e3 g1 g2 g3 g4 hlt hln' ht0 ht1
          go_wp2_with fail
          go_loopw [9, 10] (fun v i wr => ∃ (k : Nat), i = .int .i64 (8 * k : Nat) ∧ k ≤ N ∧ wr.ownsRow w2.heap.size 5 1 v (Bt.toD 8 k (Bt.ofD wd l)).length ((Bt.toD 8 k (Bt.ofD wd l)).map (Value.int .u8)) ∧ Below w2.heap.size w2 wr) (fun _ i _ => 8 * N - (intOf i).toNat)
          case atStart => exact ⟨0, rfl, Nat.zero_le _, World.ownsRow_nil _ _ _ _, Below.refl _ _⟩
          case round =>
            obtain ⟨k, rfl, hk, hown, hb3⟩ := hrel
            by_cases hlt : k < N
            · have hfin : Bt.ofD 1 (((Bt.toD 1 (8 * N) (Bt.ofD wd l)).drop (8 * k)).take (8 * k + 8 - 8 * k)) = Bt.dig 8 (Bt.ofD wd l) k := by
                rw [show 8 * k + 8 - 8 * k = 8 by omega]
                exact Bt.ofD_cut 8 (8 * N) k _ (by omega)
              have Hfin := Lib.hid hfin
              have hsz3 := hb3.size
              have hln' : (Bt.toD 8 k (Bt.ofD wd l)).length ≤ 40000 := by rw [Bt.toD_len]; omega
              have Hnext := Lib.hid (toD_next 8 k (Bt.ofD wd l))
              have hd0 := Bt.dig_lo 8 (Bt.ofD wd l) k
              have hd1 : Bt.dig 8 (Bt.ofD wd l) k ≤ 255 := by
                have := Bt.dig_hi 8 (Bt.ofD wd l) k
                rw [show (2 : Int) ^ 8 = 256 by decide] at this
                omega
              have hM := (hS2.below hb3).mid' (8 * k) (8 * k + 8) (by omega) (by omega) (by omega)
              rw [show 8 * k + 8 - 8 * k = 8 by omega] at hM Hfin
              clear hfin
              go_wp2_with fail
              refine (value_any _ _ _ _ wr hM (bits_cut _ _ _ _) (by omega)).mono ?_
              rintro e w3 ⟨rfl, rfl⟩
              rw [Hfin.out]
              clear hM
              go_wp2_with (at_builtin; refine Wd.wpList_app _ rfl (.tmp 62) (.tmp 70) 32 rfl w2.heap.size 5 j0 _ .u8 1 Tryz.underlying32 hj0 yz0 yz1 yz2 rfl _ (Bt.toD 8 k (Bt.ofD wd l)) rfl (hown.alloc _) (wr.heap.size + 1) _ 1 1 [Bt.dig 8 (Bt.ofD wd l) k] rfl rfl (by simp) (Wd.Rd.lit wr .u8 [Bt.dig 8 (Bt.ofD wd l) k] _ _ rfl) (by simp; omega) (by simp [maxLen]; omega) (by simp; omega) ?_; intro v' w4 hown4 hgrow)
              have hb4 : Below w2.heap.size w2 w4 := (hb3.alloc hsz3 _).grown hgrow (by simp; omega) (fun g hg => (hown.lt g hg).1)
              rw [← Hnext.out] at hown4
              clear hown hgrow hb3
              go_roundw
              case rel => exact ⟨k + 1, by go_num, by omega, hown4, hb4⟩
              case measure => simp [intOf]; omega
            · obtain rfl : k = N := by omega
              obtain ⟨A5, n5, c5, rfl, hS5⟩ := Wd.Sl.of_own hown
              have hW : Below w.heap.size w wr := hb.trans (hb3.mono hb.size)
              clear hown hS2 hb hb3
              go_wp2_with fail
              go_ret2
              exact ⟨_, _, _, rfl, hS5, hW⟩
theorem refPack_arg (A : Option Addr) (m c : Nat) (wd : Int) (w : World) (h : wd < 0 ∨ 62 < wd) :
    Calls Tryz.prog 73 #[.slice A m c, .int .i64 wd] w (Wd.Out2 w .u8 [] 1) := by
  rcases (show wd < 0 ∨ (0 ≤ wd ∧ 62 < wd) by omega) with r | ⟨r, r2⟩
  · clear h
    go_enter Tryz.func73, Tryz.ntmps73
    go_wp2_with fail
    go_ret2
    exact Wd.Out2.err _ _ _ _ (Below.refl _ _)
  · clear h
    go_enter Tryz.func73, Tryz.ntmps73
    go_wp2_with fail
    go_ret2
    exact Wd.Out2.err _ _ _ _ (Below.refl _ _)
theorem refPack_long (A : Option Addr) (m c : Nat) (wd : Int) (w : World) (h1 : 0 ≤ wd) (h2 : wd ≤ 62) (h3 : 4096 < m) (h4 : m ≤ 9223372036854775807) :
    Calls Tryz.prog 73 #[.slice A m c, .int .i64 wd] w (Wd.Out2 w .u8 [] 2) := by
  go_enter Tryz.func73, Tryz.ntmps73
  go_wp2_with fail
  go_ret2
  exact Wd.Out2.err _ _ _ _ (Below.refl _ _)
set_option maxHeartbeats 2000000 in
theorem refPack_bad (A : Option Addr) (m c wd : Nat) (l : List Int) (w : World) (hS : Wd.Sl w .i64 A m c l) (hF : Wd.Fits .i64 l) (hm : m ≤ 4096) (hwd : wd ≤ 62) (j : Nat) (hj : j < m) (hbad : ¬ (0 ≤ l.getD j 0 ∧ l.getD j 0 < 2 ^ wd)) :
    Calls Tryz.prog 73 #[.slice A m c, .int .i64 wd] w (Wd.Out2 w .u8 [] 1) := by
  obtain ⟨i0, hi, hz0, hz1, hz2⟩ := info_parts info_int
  obtain ⟨p3, p4⟩ := pow62 wd hwd
  have hl := hS.len
  have Hl := Lib.hid hl
  have HF := Lib.hid hF
  have hcap := hS.cap
  have Hbad := Lib.hid hbad
  have d1 : decide ((wd : Int) < 0) = false := decide_eq_false (by omega)
  have d2 : decide (62 < (wd : Int)) = false := decide_eq_false (by omega)
  clear hl hbad hF
  go_enter Tryz.func73, Tryz.ntmps73
  go_wp2_with fail
  go_loopw [6, 7] (fun v i wr => ∃ (k : Nat) (xs : List Int), i = .int .i64 k ∧ k ≤ j ∧ xs.length ≤ 62 * k ∧ wr.ownsRow w.heap.size 3 1 v xs.length (xs.map (Value.int .i64)) ∧ Below w.heap.size w wr) (fun _ i _ => m - (intOf i).toNat)
  case atStart => exact ⟨0, [], rfl, Nat.zero_le _, by simp, World.ownsRow_nil _ _ _ _, Below.refl _ _⟩
  case round =>
    obtain ⟨k, xs, rfl, hk, hxl, hown, hb⟩ := hrel
    have hsz := hb.size
    have hlt : k < m := by omega
    have hkl : k < l.length := by rw [← Hl.out]; exact hlt
    obtain ⟨b, o, rfl, hbB, hcell0⟩ := hS.rd k hkl
    have hcell := (hb.cell (p := ⟨b, o + k, none⟩) hbB).trans hcell0
    have hx2 := i64_of_fits HF.out k hkl
    obtain ⟨x, hx⟩ : ∃ x, x = l.getD k 0 := ⟨_, rfl⟩
    rw [← hx] at hcell hx2
    obtain ⟨hx0, hx1⟩ := hx2
    have hw63 := wid_63 x hx1
    have Hx := Lib.hid hx
    clear hx hcell0 hkl
    rcases (show x < 0 ∨ (0 ≤ x ∧ x < 2 ^ wd) ∨ (0 ≤ x ∧ 2 ^ wd ≤ x) by omega) with q | ⟨q, q2⟩ | ⟨q, q2⟩
    · go_wp2_with fail
      refine (refWidth_any x wr (by omega) (by omega)).mono ?_
      rintro e w' ⟨rfl, rfl⟩
      go_wp2_with fail
      go_ret2
      exact Wd.Out2.err _ _ _ _ hb
    · have hkj : k ≠ j := by
        intro e
        rw [← e, ← Hx.out] at Hbad
        exact Hbad.out ⟨q, q2⟩
      have hkj2 : k < j := by omega
      have hwx : wid x ≤ wd := (wid_le wd x).2 q2
      clear hkj
      go_wp2_with fail
      refine (refWidth_any x wr (by omega) (by omega)).mono ?_
      rintro e w' ⟨rfl, rfl⟩
      go_wp2_with fail
      refine (number_any x wd wr q hx1 hwd).mono ?_
      rintro e w1 ⟨A1, n1, c1, rfl, hS1, hB1⟩
      have hown1 := Wd.own_below hown hB1
      have hb1 : Below w.heap.size w w1 := hb.trans (hB1.mono hsz)
      have Hn1 := Lib.hid hS1.len
      have hl8 := Bt.toD_len 1 wd x
      have hl8' : (Bt.toD 1 wd x).length ≤ 62 := by omega
      have hlt1 := hown.lt
      have hsz1 := hb1.size
      clear hown hl8 hB1 hb
      go_wp2_with (at_builtin; refine Wd.wpList_app _ rfl (.tmp 41) (.tmp 47) 25 rfl w.heap.size 3 i0 _ .i64 8 Tryz.underlying25 hi hz0 hz1 hz2 rfl _ xs rfl hown1 w1.heap.size A1 n1 c1 (Bt.toD 1 wd x) rfl Hn1.out hS1.nil hS1.rd (by omega) (by unfold maxLen; omega) hsz1 ?_; intro v' w2 hown2 hgrow)
      have hb2 : Below w.heap.size w w2 := hb1.grown hgrow hsz1 (fun g hg => (hlt1 g hg).1)
      clear hown1 hgrow hb1 hlt1 hS1
      go_roundw
      case rel => exact ⟨k + 1, xs ++ Bt.toD 1 wd x, by go_num, by omega, by simp; omega, hown2, hb2⟩
      case measure => simp [intOf]; omega
    · have hwx : wd < wid x := by
        have := (wid_le wd x)
        refine Nat.lt_of_not_le fun h => ?_
        have := this.1 h
        omega
      go_wp2_with fail
      refine (refWidth_any x wr (by omega) (by omega)).mono ?_
      rintro e w' ⟨rfl, rfl⟩
      go_wp2_with fail
      go_ret2
      exact Wd.Out2.err _ _ _ _ hb
theorem refPack_any (A : Option Addr) (m c : Nat) (wd : Int) (l : List Int) (w : World) (hS : Wd.Sl w .i64 A m c l) (hF : Wd.Fits .i64 l) :
    Calls Tryz.prog 73 #[.slice A m c, .int .i64 wd] w (Wd.Out2 w .u8 (packL l wd) (packE l wd)) := by
  have hl := hS.len
  have hcap := hS.cap
  have hmax := hS.max
  unfold maxLen at hmax
  by_cases h1 : wd < 0 ∨ 62 < wd
  · have e : packE l wd = 1 := if_pos h1
    rw [packL, e, if_neg (by omega)]
    exact refPack_arg A m c wd w h1
  · by_cases h2 : 4096 < l.length
    · have e : packE l wd = 2 := by unfold packE; rw [if_neg h1, if_pos h2]
      rw [packL, e, if_neg (by omega)]
      exact refPack_long A m c wd w (by omega) (by omega) (by omega) (by omega)
    · obtain ⟨W, rfl⟩ := Int.eq_ofNat_of_zero_le (show 0 ≤ wd by omega)
      by_cases h3 : Bt.InR W l
      · have e : packE l W = 0 := by unfold packE; rw [if_neg h1, if_neg h2]; exact if_pos ((inB_iff W l).2 h3)
        rw [packL, e, if_pos rfl, ← hl]
        exact refPack_ok A m c W l w hS h3 (by omega) (by omega)
      · have e : packE l W = 1 := by unfold packE; rw [if_neg h1, if_neg h2]; exact if_neg (fun q => h3 ((inB_iff W l).1 q))
        rw [packL, e, if_neg (by omega)]
        have : ∃ j, j < l.length ∧ ¬ (0 ≤ l.getD j 0 ∧ l.getD j 0 < 2 ^ W) := by
          refine Classical.byContradiction fun hno => h3 fun x hx => ?_
          obtain ⟨j, hj, rfl⟩ := List.getElem_of_mem hx
          refine Classical.byContradiction fun hb => hno ⟨j, hj, ?_⟩
          simpa [List.getD, hj] using hb
        obtain ⟨j, hj, hb⟩ := this
        exact refPack_bad A m c W l w hS hF (by omega) (by omega) j (by omega) hb
end Bc
end Go.Proofs.YtaoeipehpakngaaGreatDoor
