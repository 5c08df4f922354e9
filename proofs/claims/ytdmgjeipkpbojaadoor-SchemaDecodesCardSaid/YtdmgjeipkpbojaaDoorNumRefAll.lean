/- What the reference function GetLen of layer 1 does with any bytes: run, halves, GetLen. -/
import Derived.Test.YtdmgjeipkpbojaaDoorNumRefV
import Derived.Test.YtdmgjeipkpbojaaDoorNumGetV
namespace Go.Proofs.YtdmgjeipkpbojaaDoor
set_option maxRecDepth 20000
open Go.RowKit
namespace Nm
/-- The number whose digits to the base 128 are the low 7 bits of each. -/
def dv : List Int → Int
  | [] => 0
  | c :: r => c % 128 + 128 * dv r
theorem dv_lo : ∀ l : List Int, 0 ≤ dv l
  | [] => Int.le_refl _
  | c :: r => by have := dv_lo r; rw [dv]; omega
theorem dv_app : ∀ (l m : List Int), dv (l ++ m) = dv l + 128 ^ l.length * dv m
  | [], m => by simp [dv]
  | c :: r, m => by
    rw [List.cons_append, dv, dv_app r m, dv, List.length_cons, Int.pow_succ, Int.mul_add, Int.mul_comm (128 ^ r.length) 128, Int.mul_assoc]
    omega
theorem dv_take (l : List Int) (k : Nat) (hk : k < l.length) : dv (l.take (k + 1)) = dv (l.take k) + l.getD k 0 % 128 * 128 ^ k := by
  rw [List.take_succ_eq_append_getElem hk, dv_app, List.length_take, Nat.min_eq_left (by omega)]
  simp only [dv, List.getD, List.getElem?_eq_getElem hk, Option.getD_some, Int.mul_zero, Int.add_zero]
  rw [Int.mul_comm]
theorem dv_take_le (l : List Int) (k : Nat) : dv (l.take k) ≤ dv l := by
  have h := dv_app (l.take k) (l.drop k)
  rw [List.take_append_drop] at h
  have h2 := dv_lo (l.drop k)
  have h3 : (0 : Int) ≤ 128 ^ (l.take k).length := Int.le_of_lt (Int.pow_pos (by omega))
  have := Int.mul_nonneg h3 h2
  omega
theorem dv_vdF (f : Nat) : ∀ u : Int, 0 ≤ u → u < 128 ^ (f + 1) → dv (vdF f u) = u := by
  induction f with
  | zero => intro u h0 h1; simp at h1; simp only [vdF, dv]; omega
  | succ f ih =>
    intro u h0 h1
    by_cases h : u < 128
    · rw [vdF_lo _ _ h]; simp only [dv]; omega
    · have e : (128 : Int) ^ (f + 1 + 1) = 128 ^ (f + 1) * 128 := Int.pow_succ 128 (f + 1)
      rw [vdF_hi _ _ h, dv, ih (u / 128) (by omega) (by rw [e] at h1; omega)]
      omega
theorem dv_vd (u : Int) (h0 : 0 ≤ u) (h1 : u ≤ 18446744073709551615) : dv (vd u) = u := dv_vdF 9 u h0 (by rw [pow10]; omega)
end Nm
namespace Nc

set_option maxHeartbeats 400000 in
theorem refRun_any (A : Option Addr) (n c : Nat) (bs : List Int) (w : World) (hb : Wd.Sl w .u8 A n c bs) (hB : Nm.Byt bs) :
    Calls Tryd.prog 65 #[.slice A n c] w fun e w' => e = .returned (.tuple #[.int .i64 (Nm.gv bs).2.1, .int .i64 (Nm.gv bs).2.2]) ∧ w = w' := by
  have Hl := Lib.hid hb.len
  have hc := hb.cap
  have hx := hb.max
  unfold maxLen at hx
  have HS := Lib.hid hb
  have HB := Lib.hid hB
  obtain ⟨g, hg⟩ : ∃ g, g = Nm.gv bs := ⟨_, rfl⟩
  rw [← hg]
  have Hg := Lib.hid hg
  clear hb hB hg
  go_enter Tryd.func65, Tryd.ntmps65
  go_wp2_with fail
  go_loop [4] (fun i => ∃ (k : Nat) (acc : Int), i = .int .i64 (k : Int) ∧ k ≤ n ∧ k ≤ 9 ∧ Hid (Nm.gvF k acc (bs.drop k) = g)) (fun i => n - (intOf i).toNat)
  case atStart => exact ⟨0, 0, rfl, Nat.zero_le _, Nat.zero_le _, Lib.hid Hg.out.symm⟩
  case round =>
    obtain ⟨k, acc, rfl, hk, hk9, hG⟩ := hrel
    by_cases hlt : k < n
    · have hlt' : k < bs.length := by rw [← Hl.out]; exact hlt
      obtain ⟨b, o, rfl, _, hcx⟩ := HS.out.rd k hlt'
      obtain ⟨x, hx'⟩ : ∃ x, x = bs.getD k 0 := ⟨_, rfl⟩
      have hd : bs.drop k = x :: bs.drop (k + 1) := by
        rw [hx', List.drop_eq_getElem_cons hlt']; simp [List.getD, hlt']
      rw [← hx'] at hcx
      have hxb : 0 ≤ x ∧ x ≤ 255 := HB.out x (by rw [hx']; simp [List.getD, hlt'])
      obtain ⟨hx0, hx1⟩ := hxb
      have hG2 := hG.out
      rw [hd, Nm.gvF] at hG2
      have i1 : (k : Int) < (n : Int) := by omega
      clear hd hx' hlt'
      rcases Nat.lt_or_ge k 9 with q1 | q1
      · have q9 : ((k : Int) == 9) = false := by rw [beq_eq_false_iff_ne]; omega
        rw [if_neg (by omega)] at hG2
        by_cases q2 : 128 ≤ x
        · rw [if_pos q2] at hG2
          have HG2 := Lib.hid hG2
          clear hG2 hG
          go_wp2_with fail
          go_round
          case rel => exact ⟨k + 1, _, by go_num, by omega, by omega, HG2⟩
          case measure => simp [intOf]; omega
        · rw [if_neg q2] at hG2
          rcases (show x ≤ 0 ∨ 0 < x by omega) with q3 | q3
          · have x0 : (x == 0) = true := by rw [beq_iff_eq]; omega
            rcases (show k ≤ 0 ∨ 0 < k by omega) with q4 | q4
            · rw [if_neg (by omega)] at hG2
              have HG2 := Lib.hid hG2
              clear hG2 hG
              go_wp2_with fail
              go_ret2
              rw [← HG2.out]
              exact ⟨rfl, rfl⟩
            · rw [if_pos (by omega)] at hG2
              have HG2 := Lib.hid hG2
              clear hG2 hG
              go_wp2_with fail
              go_ret2
              rw [← HG2.out]
              exact ⟨rfl, rfl⟩
          · have x0 : (x == 0) = false := by rw [beq_eq_false_iff_ne]; omega
            rw [if_neg (by omega)] at hG2
            have HG2 := Lib.hid hG2
            clear hG2 hG
            go_wp2_with fail
            go_ret2
            rw [← HG2.out]
            exact ⟨rfl, rfl⟩
      · have q9 : ((k : Int) == 9) = true := by rw [beq_iff_eq]; omega
        by_cases q2 : 1 < x
        · rw [if_pos (by omega)] at hG2
          have HG2 := Lib.hid hG2
          clear hG2 hG
          go_wp2_with fail
          go_ret2
          rw [← HG2.out]
          exact ⟨rfl, rfl⟩
        · rw [if_neg (by omega), if_neg (by omega)] at hG2
          rcases (show x ≤ 0 ∨ 0 < x by omega) with q3 | q3
          · have x0 : (x == 0) = true := by rw [beq_iff_eq]; omega
            rw [if_pos (by omega)] at hG2
            have HG2 := Lib.hid hG2
            clear hG2 hG
            go_wp2_with fail
            go_ret2
            rw [← HG2.out]
            exact ⟨rfl, rfl⟩
          · have x0 : (x == 0) = false := by rw [beq_eq_false_iff_ne]; omega
            rw [if_neg (by omega)] at hG2
            have HG2 := Lib.hid hG2
            clear hG2 hG
            go_wp2_with fail
            go_ret2
            rw [← HG2.out]
            exact ⟨rfl, rfl⟩
    · have hG2 := hG.out
      rw [List.drop_of_length_le (by rw [← Hl.out]; omega)] at hG2
      have HG2 := Lib.hid hG2
      have i1 : ¬ (k : Int) < (n : Int) := by omega
      clear hG2 hG
      go_wp2_with fail
      go_ret2
      rw [← HG2.out]
      exact ⟨rfl, rfl⟩

set_option maxHeartbeats 400000 in
theorem refHalves_any (A : Option Addr) (n c : Nat) (d : List Int) (w : World) (hb : Wd.Sl w .u8 A n c d) (hB : Nm.Byt d) (h1 : 1 ≤ n) (h2 : n ≤ 10) (hv : Nm.dv d ≤ 18446744073709551615) :
    Calls Tryd.prog 66 #[.slice A n c] w fun e w' => e = .returned (.tuple #[.int .i64 (Nm.dv d / 2), .int .i64 (Nm.dv d % 2)]) ∧ w = w' := by
  have Hl := Lib.hid hb.len
  have hc := hb.cap
  have hx := hb.max
  unfold maxLen at hx
  have HB := Lib.hid hB
  have hd0 : 0 < d.length := by rw [← Hl.out]; omega
  obtain ⟨b, o, rfl, _, hcell⟩ := hb.rd.some_ hd0
  have c0 : w.cell? ⟨b, o, none⟩ = some (.int .u8 (d.getD 0 0)) := hcell 0 hd0
  have hx0 : 0 ≤ d.getD 0 0 ∧ d.getD 0 0 ≤ 255 := hB _ (by simp [List.getD, hd0])
  have hv1 : Nm.dv (d.take 1) = d.getD 0 0 % 128 := by
    have := Nm.dv_take d 0 hd0
    simpa [Nm.dv] using this
  have hodd : Nm.dv d % 2 = d.getD 0 0 % 2 := by
    have h := Nm.dv_app (d.take 1) (d.drop 1)
    rw [List.take_append_drop, hv1, List.length_take, Nat.min_eq_left (by omega)] at h
    omega
  obtain ⟨D, hD⟩ : ∃ D, D = Nm.dv d := ⟨_, rfl⟩
  have hle := fun k => Nm.dv_take_le d k
  rw [← hD] at hv hodd ⊢
  generalize d.getD 0 0 = x0 at *
  obtain ⟨y0, y1⟩ := hx0
  have Hv1 := Lib.hid hv1
  have Ho := Lib.hid hodd
  have HD := Lib.hid hD
  have Hle := Lib.hid hle
  have Hc := Lib.hid hcell
  clear hb hB hcell hv1 hodd hD hle hd0
  go_enter Tryd.func66, Tryd.ntmps66
  go_wp2_with fail
  go_loop [4, 6, 7] (fun vh vp vi => ∃ (k : Nat) (h p : Int), vh = .int .i64 h ∧ vp = .int .i64 p ∧ vi = .int .i64 (k : Int) ∧ 1 ≤ k ∧ k ≤ n ∧ 0 ≤ h ∧ h ≤ 9223372036854775807 ∧ 0 ≤ p ∧ p ≤ 4611686018427387904 ∧ Hid (h = Nm.dv (d.take k) / 2 ∧ Nm.dv (d.take k) % 2 = x0 % 2 ∧ (k ≤ 9 → 2 * p = 128 ^ k))) (fun _ _ i => n - (intOf i).toNat)
  case atStart => exact ⟨1, x0 % 128 / 2, 64, rfl, rfl, rfl, Nat.le_refl _, h1, by omega, by omega, by omega, by omega, Lib.hid ⟨by rw [Hv1.out], by rw [Hv1.out]; omega, fun _ => by decide⟩⟩
  case round =>
    obtain ⟨k, h, p, rfl, rfl, rfl, hk1, hk, g0, g1, p0, p1, H⟩ := hrel
    by_cases hlt : k < n
    · have hkd : k < d.length := by rw [← Hl.out]; exact hlt
      have ck := Hc.out k hkd
      have hxk : 0 ≤ d.getD k 0 ∧ d.getD k 0 ≤ 255 := HB.out _ (by simp [List.getD, hkd])
      have hnx := Nm.dv_take d k hkd
      have hle := Hle.out (k + 1)
      rw [← HD.out] at hle
      obtain ⟨e1, e2, e3⟩ := H.out
      have e3 := e3 (by omega)
      have hlo := Nm.dv_lo (d.take k)
      generalize d.getD k 0 = x at *
      obtain ⟨z0, z1⟩ := hxk
      have hm : x % 128 * 128 ^ k = 2 * (x % 128 * p) := by rw [← e3, ← Int.mul_assoc, ← Int.mul_assoc, Int.mul_comm (x % 128) 2]
      have hm0 : 0 ≤ x % 128 * p := Int.mul_nonneg (by omega) p0
      rw [hm] at hnx
      obtain ⟨q, hq⟩ : ∃ q, q = x % 128 * p := ⟨_, rfl⟩
      rw [← hq] at hnx hm0
      have hh : h + q = Nm.dv (d.take (k + 1)) / 2 := by omega
      have hpar : Nm.dv (d.take (k + 1)) % 2 = x0 % 2 := by omega
      have b1 : h + q ≤ 9223372036854775807 := by omega
      have b2 : x % 128 * p ≤ 9223372036854775807 := by rw [← hq]; omega
      have b3 : 0 ≤ x % 128 * p := by rw [← hq]; exact hm0
      have b4 : h + x % 128 * p ≤ 9223372036854775807 := by rw [← hq]; exact b1
      have i1 : (k : Int) < (n : Int) := by omega
      have Hh := Lib.hid (show h + x % 128 * p = Nm.dv (d.take (k + 1)) / 2 by rw [← hq]; exact hh)
      have Hp := Lib.hid hpar
      have He3 := Lib.hid e3
      by_cases q9 : k < 9
      · have hp2 : p * 128 ≤ 4611686018427387904 := by
          have : (128 : Int) ^ k ≤ 128 ^ 8 := Nm.pow_up (by omega)
          have e8 : (128 : Int) ^ 8 = 72057594037927936 := by decide
          omega
        have i9 : (k : Int) < 9 := by omega
        clear hnx hle e1 e2 e3 hlo hm hm0 hq hh hpar b1 H hkd
        go_wp2_with fail
        go_round
        case rel =>
          refine ⟨k + 1, h + x % 128 * p, p * 128, rfl, rfl, by go_num, by omega, by omega, by omega, b4, by omega, hp2, Lib.hid ⟨Hh.out, Hp.out, fun _ => ?_⟩⟩
          rw [Int.pow_succ, ← He3.out]
          omega
        case measure => simp [intOf]; omega
      · have i9 : ¬ (k : Int) < 9 := by omega
        clear hnx hle e1 e2 e3 hlo hm hm0 hq hh hpar b1 H hkd
        go_wp2_with fail
        go_round
        case rel => exact ⟨k + 1, h + x % 128 * p, p, rfl, rfl, by go_num, by omega, by omega, by omega, b4, p0, p1, Lib.hid ⟨Hh.out, Hp.out, fun h => by omega⟩⟩
        case measure => simp [intOf]; omega
    · have hh : h = D / 2 := by
        have := H.out.1
        rw [List.take_of_length_le (by rw [← Hl.out]; omega), ← HD.out] at this
        exact this
      have Hh := Lib.hid hh
      have i1 : ¬ (k : Int) < (n : Int) := by omega
      clear hh H
      go_wp2_with fail
      go_ret2
      rw [Ho.out, ← Hh.out]
      exact ⟨rfl, rfl⟩

/-- GetLen of the reference, of any bytes. -/
theorem refGetLen_all (A : Option Addr) (n c : Nat) (bs : List Int) (w : World) (hb : Wd.Sl w .u8 A n c bs) (hB : Nm.Byt bs) :
    Calls Tryd.prog 51 #[.slice A n c] w fun e w' => e = .returned (three .i64 (Nm.getL bs)) ∧ w = w' := by
  have hcap := hb.cap
  have hmx := hb.max
  unfold maxLen at hmx
  have c1 := refRun_any A n c bs w hb hB
  by_cases h : (Nm.gv bs).2.2 = 0
  · obtain ⟨k, u, hk, k1, k2, k3, u0, u1, ht, _⟩ := Nm.gv_only bs hB h
    rw [← hb.len] at k2
    have hSk := hb.head k k2
    have hdv : Nm.dv (bs.take k) = u := by rw [ht]; exact Nm.dv_vd u u0 u1
    have c2 := refHalves_any A k c (bs.take k) w hSk (fun x hx => hB x (List.mem_of_mem_take hx)) k1 k3 (by rw [hdv]; exact u1)
    rw [hdv] at c2
    rw [hk] at c1
    have C1 := Lib.hid c1
    have C2 := Lib.hid c2
    have kI : (k : Int) ≤ (n : Int) := by omega
    by_cases hu : 9223372036854775807 < u
    · have hr : Nm.getL bs = (0, 0, 7) := by unfold Nm.getL; rw [hk]; exact if_pos hu
      rw [hr]
      have hu2 : 4611686018427387903 < u / 2 := by omega
      clear c1 c2 hSk hdv ht hk h hr hb hB
      go_enter Tryd.func51, Tryd.ntmps51
      go_wp2_with fail
      refine C1.out.mono ?_
      rintro e w1 ⟨rfl, rfl⟩
      go_wp2_with fail
      refine C2.out.mono ?_
      rintro e w1 ⟨rfl, rfl⟩
      go_wp2_with fail
      go_ret3
      exact ⟨rfl, rfl⟩
    · have hr : Nm.getL bs = (u, (k : Int), 0) := by unfold Nm.getL; rw [hk]; exact if_neg hu
      rw [hr]
      have hu2 : u / 2 ≤ 4611686018427387903 := by omega
      have hu3 : 2 * (u / 2) + u % 2 = u := by omega
      have Hu := Lib.hid hu3
      clear c1 c2 hSk hdv ht hk h hr hb hB hu3
      go_enter Tryd.func51, Tryd.ntmps51
      go_wp2_with fail
      refine C1.out.mono ?_
      rintro e w1 ⟨rfl, rfl⟩
      go_wp2_with fail
      refine C2.out.mono ?_
      rintro e w1 ⟨rfl, rfl⟩
      go_wp2_with fail
      go_ret3
      exact ⟨congrArg (fun z : Int => Ending.returned (three .i64 (z, (k : Int), 0))) Hu.out, rfl⟩
  · rcases Nm.gv_err bs with q | q | q
    · exact absurd q h
    all_goals
      have hr : Nm.getL bs = Nm.gv bs := by unfold Nm.getL; rw [q]; rfl
      rw [hr]
      rw [q] at c1 ⊢
      have C1 := Lib.hid c1
      clear c1 hr q h hb hB
      go_enter Tryd.func51, Tryd.ntmps51
      go_wp2_with fail
      refine C1.out.mono ?_
      rintro e w1 ⟨rfl, rfl⟩
      go_wp2_with fail
      go_ret3
      exact ⟨rfl, rfl⟩
end Nc
end Go.Proofs.YtdmgjeipkpbojaaDoor
