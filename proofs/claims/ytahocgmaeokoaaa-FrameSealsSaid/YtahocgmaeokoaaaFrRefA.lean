/- What the reference functions of layer 4 that write do: differ, Sum, Seal. -/
import Derived.Test.YtahocgmaeokoaaaFrFrame
import Derived.Test.YtahocgmaeokoaaaFrSum
import Derived.Test.YtahocgmaeokoaaaNumRefV
namespace Go.Proofs.Ytahocgmaeokoaaa
open Go.RowKit
namespace Fc
open Nc

theorem xor_divP (a b k : Nat) : (a ^^^ b) / 2 ^ k = a / 2 ^ k ^^^ b / 2 ^ k := by
  have := Nat.shiftRight_xor_distrib (a := a) (b := b) (i := k)
  simpa [Nat.shiftRight_eq_div_pow] using this
theorem xor_low (a b k : Nat) : (a ^^^ b) % 2 ^ (k + 1) = (a ^^^ b) % 2 ^ k + (if a / 2 ^ k % 2 = b / 2 ^ k % 2 then 0 else 2 ^ k) := by
  rw [Nat.mod_pow_succ, xor_divP, Fr.xor_mod]
  by_cases h : a / 2 ^ k % 2 = b / 2 ^ k % 2
  · rw [if_pos h, show (a / 2 ^ k + b / 2 ^ k) % 2 = 0 by omega]
    simp
  · rw [if_neg h, show (a / 2 ^ k + b / 2 ^ k) % 2 = 1 by omega]
    simp

set_option maxHeartbeats 1000000 in
theorem differ_any (a b : Nat) (w : World) (ha : a < 4294967296) (hb : b < 4294967296) :
    Calls Try.prog 23 #[.int .i64 (a : Int), .int .i64 (b : Int)] w fun e w' => e = .returned (.int .i64 ((a ^^^ b : Nat) : Int)) ∧ w = w' := by
  go_enter Try.func23, Try.ntmps23
  go_wp2
  go_loop [0, 1, 5, 6, 7] (fun va vb vn vp vk => ∃ (k x y n p : Nat), va = .int .i64 (x : Int) ∧ vb = .int .i64 (y : Int) ∧ vn = .int .i64 (n : Int) ∧ vp = .int .i64 (p : Int) ∧ vk = .int .i64 (k : Int) ∧ k ≤ 32 ∧ x < 4294967296 ∧ y < 4294967296 ∧ n < 4294967296 ∧ p ≤ 4294967296 ∧ Hid (x = a / 2 ^ k ∧ y = b / 2 ^ k ∧ p = 2 ^ k ∧ n = (a ^^^ b) % 2 ^ k)) (fun _ _ _ _ i => 32 - (intOf i).toNat)
  case atStart => exact ⟨0, a, b, 0, 1, rfl, rfl, rfl, rfl, rfl, Nat.zero_le _, ha, hb, by decide, by decide, Lib.hid ⟨by simp, by simp, by simp, by simp [Nat.mod_one]⟩⟩
  case round =>
    obtain ⟨k, x, y, n, p, rfl, rfl, rfl, rfl, rfl, hk, hx, hy, hn, hp, H⟩ := hrel
    by_cases hlt : k < 32
    · have hkI : (k : Int) < 32 := by omega
      have hp2 : p * 2 ≤ 4294967296 := by
        rw [H.out.2.2.1, ← Nat.pow_succ]
        exact Nat.pow_le_pow_right (by decide) (show k + 1 ≤ 32 by omega)
      have hpk : 2 ^ k * 2 = 2 ^ (k + 1) := (Nat.pow_succ ..).symm
      by_cases q : x % 2 = y % 2
      · have hq : (((x : Int) % 2) != ((y : Int) % 2)) = false := by
          rw [bne_eq_false_iff_eq]; omega
        have hn' : (a ^^^ b) % 2 ^ (k + 1) = n := by
          rw [xor_low, if_pos (by rw [← H.out.1, ← H.out.2.1]; exact q), H.out.2.2.2]
          rfl
        have Hn := Lib.hid hn'
        have Hp := Lib.hid hpk
        clear q hn' hpk
        go_wp2
        go_round
        case rel =>
          refine ⟨k + 1, x / 2, y / 2, n, p * 2, by go_num, by go_num, by go_num, by go_num, by go_num, by omega, by omega, by omega, by omega, by omega, Lib.hid ⟨?_, ?_, ?_, Hn.out.symm⟩⟩
          · rw [H.out.1, Nat.div_div_eq_div_mul, Hp.out]
          · rw [H.out.2.1, Nat.div_div_eq_div_mul, Hp.out]
          · rw [H.out.2.2.1, Hp.out]
        case measure => simp [intOf]; omega
      · have hq : (((x : Int) % 2) != ((y : Int) % 2)) = true := by
          rw [bne_iff_ne]; omega
        have hn' : (a ^^^ b) % 2 ^ (k + 1) = n + p := by
          rw [xor_low, if_neg (by rw [← H.out.1, ← H.out.2.1]; exact q), H.out.2.2.2, H.out.2.2.1]
        have hnl : n + p < 4294967296 := by
          rw [← hn']
          exact Nat.lt_of_le_of_lt (Nat.mod_le _ _) (Fr.xor_lt (n := 32) ha hb)
        have Hn := Lib.hid hn'
        have Hp := Lib.hid hpk
        clear q hn' hpk
        go_wp2
        go_round
        case rel =>
          refine ⟨k + 1, x / 2, y / 2, n + p, p * 2, by go_num, by go_num, by go_num, by go_num, by go_num, by omega, by omega, by omega, by omega, by omega, Lib.hid ⟨?_, ?_, ?_, Hn.out.symm⟩⟩
          · rw [H.out.1, Nat.div_div_eq_div_mul, Hp.out]
          · rw [H.out.2.1, Nat.div_div_eq_div_mul, Hp.out]
          · rw [H.out.2.2.1, Hp.out]
        case measure => simp [intOf]; omega
    · have hk32 : k = 32 := by omega
      have hn' : n = a ^^^ b := by
        rw [H.out.2.2.2, hk32]
        exact Nat.mod_eq_of_lt (Fr.xor_lt (n := 32) ha hb)
      have Hn := Lib.hid hn'
      clear hn' hk32
      go_wp2
      go_ret
      rw [← Hn.out]
      exact ⟨rfl, rfl⟩

set_option maxHeartbeats 1000000 in
theorem refSum_any (A : Option Addr) (n c : Nat) (b : List Int) (w : World) (hS : Wd.Sl w .u8 A n c b) (hB : Nm.Byt b) :
    Calls Try.prog 13 #[.slice A n c] w fun e w' => e = .returned (.int .i64 (Fr.sum b)) ∧ w = w' := by
  obtain ⟨hl, hc, hx, hA, hr⟩ := hS
  unfold maxLen at hx
  have Hl := Lib.hid hl
  have HB := Lib.hid hB
  clear hl hB
  go_enter Try.func13, Try.ntmps13
  go_wp2
  go_loopw [3, 4] (fun r i wr => ∃ (k x : Nat), i = .int .i64 k ∧ r = .int .i64 (x : Int) ∧ k ≤ n ∧ x < 4294967296 ∧ Hid (Fr.reg 4294967295 (b.take k) = x) ∧ wr = w) (fun _ i _ => n - (intOf i).toNat)
  case atStart => exact ⟨0, 4294967295, rfl, rfl, Nat.zero_le _, by decide, Lib.hid rfl, rfl⟩
  case round =>
    obtain ⟨k, x, rfl, rfl, hk, hxl, hR, rfl⟩ := hrel
    by_cases hlt : k < n
    · have hlt' : k < b.length := by rw [← Hl.out]; exact hlt
      have hkI : (k : Int) < (n : Int) := by omega
      obtain ⟨B, o, rfl, _, hcell⟩ := hr k hlt'
      obtain ⟨q0, q1⟩ := byt_get HB.out k hlt'
      have hnx := take_next b k hlt'
      obtain ⟨y, hy⟩ : ∃ y, y = b.getD k 0 := ⟨_, rfl⟩
      rw [← hy] at hcell q0 q1 hnx
      obtain ⟨z, rfl⟩ := Int.eq_ofNat_of_zero_le q0
      have Hn := Lib.hid hnx
      have hz : z < 4294967296 := by omega
      clear hy hnx hA hr
      go_wp2_with fail
      refine (differ_any x z wr hxl hz).mono ?_
      rintro e w1 ⟨rfl, rfl⟩
      have hxz : x ^^^ z < 4294967296 := Fr.xor_lt (n := 32) hxl hz
      obtain ⟨y0, hy0⟩ : ∃ y0, y0 = x ^^^ z := ⟨_, rfl⟩
      rw [← hy0] at hxz ⊢
      have Hy0 := Lib.hid hy0
      clear hy0
      go_wp2_with fail
      go_loopw [3, 5] (fun r j wq => ∃ (i s : Nat), j = .int .i64 (i : Int) ∧ r = .int .i64 (s : Int) ∧ i ≤ 8 ∧ s < 4294967296 ∧ Hid (Fr.stN (8 - i) s = Fr.stN 8 y0) ∧ wq = wr) (fun _ j _ => 8 - (intOf j).toNat)
      case atStart => exact ⟨0, y0, rfl, rfl, Nat.zero_le _, hxz, Lib.hid rfl, rfl⟩
      case round =>
        obtain ⟨i, s, rfl, rfl, hi, hs, hst, rfl⟩ := hrel
        by_cases hi8 : i < 8
        · have hiI : (i : Int) < 8 := by omega
          rcases Nat.mod_two_eq_zero_or_one s with q | q
          · have hq : (((s : Int) % 2) == 1) = false := by rw [beq_eq_false_iff_ne]; omega
            have hs2 : Fr.st s = s / 2 := if_neg (by omega)
            have Hs2 := Lib.hid hs2
            clear q hs2
            go_wp2_with fail
            go_roundw
            case rel =>
              refine ⟨i + 1, s / 2, by go_num, by go_num, by omega, by omega, Lib.hid ?_, trivial⟩
              have := hst.out
              rw [show 8 - i = (8 - (i + 1)) + 1 by omega] at this
              rw [← Hs2.out]
              exact this
            case measure => simp [intOf]; omega
          · have hq : (((s : Int) % 2) == 1) = true := by rw [beq_iff_eq]; omega
            have hs2 : Fr.st s = s / 2 ^^^ 3988292384 := if_pos q
            have Hs2 := Lib.hid hs2
            have C := Lib.hid fun w => differ_any (s / 2) 3988292384 w (by omega) (by decide)
            clear q hs2
            go_wp2_with fail
            refine (C.out _).mono ?_
            rintro e w1 ⟨rfl, rfl⟩
            go_wp2_with fail
            go_roundw
            case rel =>
              refine ⟨i + 1, Fr.st s, by go_num, by rw [Hs2.out], by omega, Fr.st_lt hs, Lib.hid ?_, trivial⟩
              have := hst.out
              rw [show 8 - i = (8 - (i + 1)) + 1 by omega] at this
              exact this
            case measure => simp [intOf]; omega
        · have hiI : ¬ (i : Int) < 8 := by omega
          have hs8 : s = Fr.stN 8 y0 := by
            have := hst.out
            rw [show 8 - i = 0 by omega] at this
            exact this
          have Hs8 := Lib.hid hs8
          clear hs8 hst
          go_wp2_with fail
          go_roundw
          case rel =>
            refine ⟨k + 1, s, by go_num, rfl, by omega, hs, Lib.hid ?_, trivial⟩
            rw [Hn.out, Fr.reg_snoc, hR.out, Hs8.out, Hy0.out]
            rfl
          case measure => simp [intOf]; omega
    · have hkn : k = b.length := by rw [← Hl.out]; omega
      have hsm : Fr.sum b = 4294967295 - x := by
        have h := hR.out
        rw [hkn, List.take_length] at h
        unfold Fr.sum
        rw [h]
      have hkI : ¬ (k : Int) < (n : Int) := by omega
      have Hs := Lib.hid hsm
      clear hkn hsm hA hr
      go_wp2_with fail
      go_ret
      refine ⟨?_, rfl⟩
      have e : ((Fr.sum b : Nat) : Int) = 4294967295 - (x : Int) := by rw [Hs.out]; omega
      rw [e]
      rfl

set_option maxRecDepth 100000 in
set_option maxHeartbeats 1000000 in
theorem refSeal_own (A : Option Addr) (n c : Nat) (b : List Int) (w : World) (hS : Wd.Sl w .u8 A n c b) (hB : Nm.Byt b) (hn : n ≤ 65536) :
    Calls Try.prog 10 #[.slice A n c] w (Wd.Out2 w .u8 (Fr.frame b) 0) := by
  obtain ⟨i0, hi, hz0, hz1, hz2⟩ := info_parts info_u8
  have hl := hS.len
  have hvl := Nm.vd_len (b.length : Int)
  have Hl := Lib.hid hl
  have C2 := fun w' => refPutLen_own (n : Int) w' (by omega) (by omega)
  have C3 := fun w' (hb : Below w.heap.size w w') => refSum_any A n c b w' (hS.below hb) hB
  have hfr : Fr.frame b = (Nm.vd (n : Int) ++ b) ++ Fr.le4 (Fr.sum b) := by rw [hl]; rfl
  rw [← hl] at hvl
  have HC2 := Lib.hid C2
  have HC3 := Lib.hid C3
  have Hfr := Lib.hid hfr
  have HS := Lib.hid hS
  have hcn := hS.cap
  have hmx := hS.max
  have hnil := Lib.hid hS.nil
  have hsl := Fr.sum_lt b
  unfold maxLen at hmx
  clear C2 C3 hl hfr hS hB
  generalize Nm.vd (n : Int) = vs at *
  generalize Fr.sum b = s at *
  go_enter Try.func10, Try.ntmps10
  go_wp2_with fail
  refine (HC2.out w).mono ?_
  rintro e w3 ⟨v3, rfl, hO3, hb3⟩
  have hS3 := HS.out.below hb3
  go_wp2_with (at_builtin; refine Wd.wpList_app _ rfl (.tmp 12) (.tmp 13) 22 rfl w.heap.size 5 i0 _ .u8 1 Try.underlying22 hi hz0 hz1 hz2 rfl v3 vs rfl hO3 w3.heap.size A n c b rfl Hl.out hnil.out hS3.rd (by rw [← Hl.out]; omega) (by rw [← Hl.out]; unfold maxLen; omega) hb3.size ?_; intro v4 w4 hO4 hg4)
  have hb4 : Below w.heap.size w w4 := hb3.grown hg4 hb3.size fun g hg => (hO3.lt g hg).1
  clear hO3 hg4 hb3 hS3 HC2
  refine (HC3.out w4 hb4).mono ?_
  rintro e w5 ⟨rfl, rfl⟩
  have hvb : (vs ++ b).length ≤ 65546 := by rw [List.length_append, ← Hl.out]; omega
  generalize vs ++ b = us at *
  clear HC3
  go_wp2_with fail
  go_loopw [4, 5, 6] (fun v r i wr => ∃ (k x : Nat), i = .int .i64 (k : Int) ∧ k ≤ 4 ∧ r = .int .i64 (x : Int) ∧ x < 4294967296 ∧ Hid (x = s / 256 ^ k) ∧ wr.ownsRow w.heap.size 5 1 v (us ++ (Fr.le4 s).take k).length ((us ++ (Fr.le4 s).take k).map (Value.int .u8)) ∧ Below w.heap.size w wr) (fun _ _ i _ => 4 - (intOf i).toNat)
  case atStart => exact ⟨0, s, rfl, Nat.zero_le _, rfl, by omega, Lib.hid (by simp), by simpa using hO4, hb4⟩
  case round =>
    clear hO4 hb4
    obtain ⟨k, x, rfl, hk, rfl, hx, hX, hO, hb⟩ := hrel
    have hsz := hb.size
    by_cases hlt : k < 4
    · have hkI : (k : Int) < 4 := by omega
      have hul : (us ++ (Fr.le4 s).take k).length ≤ 65550 := by rw [List.length_append, List.length_take]; omega
      have hnx : us ++ (Fr.le4 s).take (k + 1) = (us ++ (Fr.le4 s).take k) ++ [((x % 256 : Nat) : Int)] := by
        rw [take_next (Fr.le4 s) k hlt, le4_get s k hlt, ← hX.out, List.append_assoc]
      have hx2 : x / 256 = s / 256 ^ (k + 1) := by rw [hX.out, Nat.div_div_eq_div_mul, Nat.pow_succ]
      have Hn := Lib.hid hnx
      have Hx2 := Lib.hid hx2
      clear hnx hx2
      generalize us ++ (Fr.le4 s).take k = ts at *
      go_wp2_with (at_builtin; refine Wd.wpList_app _ rfl (.tmp 21) (.tmp 25) 22 rfl w.heap.size 5 i0 _ .u8 1 Try.underlying22 hi hz0 hz1 hz2 rfl _ ts rfl (hO.alloc _) (wr.heap.size + 1) _ 1 1 [((x % 256 : Nat) : Int)] rfl rfl (by simp) (Wd.Rd.lit wr .u8 [((x % 256 : Nat) : Int)] _ _ rfl) (by simp; omega) (by simp [maxLen]; omega) (by simp; omega) ?_; intro v' w1 hown hg1)
      go_roundw
      case rel =>
        refine ⟨k + 1, x / 256, by go_num, by omega, by go_num, by omega, Lib.hid Hx2.out, ?_, (hb.alloc hsz _).grown hg1 (by simp; omega) fun g hg => (hO.lt g hg).1⟩
        rw [Hn.out]
        exact hown
      case measure => simp [intOf]; omega
    · have hk4 : (Fr.le4 s).take k = Fr.le4 s := List.take_of_length_le (by rw [Fr.le4_len]; omega)
      have hkI : ¬ (k : Int) < 4 := by omega
      rw [hk4, ← Hfr.out] at hO
      clear hk4
      go_wp2_with fail
      go_ret2
      obtain ⟨A6, n6, c6, rfl, hS6⟩ := Wd.Sl.of_own hO
      exact ⟨A6, n6, c6, rfl, hS6, hb⟩
theorem refSeal_long (A : Option Addr) (n c : Nat) (w : World) (hn : 65536 < n) :
    Calls Try.prog 10 #[.slice A n c] w fun e w' => e = .returned (.tuple #[.slice none 0 0, .int .i64 2]) ∧ w = w' := by
  have hn' : (65536 : Int) < (n : Int) := by omega
  go_enter Try.func10, Try.ntmps10
  go_wp2_with fail
  go_ret2
  exact ⟨rfl, rfl⟩
end Fc
end Go.Proofs.Ytahocgmaeokoaaa
