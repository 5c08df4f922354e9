/- The walk of the statement BitsWide of layer 2. -/
import Derived.Test.YtadhppfplndhoaaBitsAwake
import Derived.Test.YtadhppfplndhoaaBitsLaws
namespace Go.Proofs.Ytadhppfplndhoaa
open Go.RowKit
namespace Lw
open Bc Nc

/-- M is the greatest of the first k numbers, all of them from 0 on, or 0. -/
def MaxOf (l : List Int) (k : Nat) (M : Int) : Prop := (∀ j, j < k → 0 ≤ l.getD j 0 ∧ l.getD j 0 ≤ M) ∧ (M = 0 ∨ ∃ j, j < l.length ∧ l.getD j 0 = M)
theorem MaxOf.keep {l : List Int} {k : Nat} {M : Int} (h : MaxOf l k M) (h0 : 0 ≤ l.getD k 0) (h1 : l.getD k 0 ≤ M) : MaxOf l (k + 1) M := by
  refine ⟨fun j hj => ?_, h.2⟩
  rcases (show j < k ∨ j = k by omega) with q | q
  · exact h.1 j q
  · subst q; exact ⟨h0, h1⟩
theorem MaxOf.more {l : List Int} {k : Nat} {M : Int} (h : MaxOf l k M) (hk : k < l.length) (h0 : 0 ≤ l.getD k 0) (h1 : M < l.getD k 0) : MaxOf l (k + 1) (l.getD k 0) := by
  refine ⟨fun j hj => ?_, .inr ⟨k, hk, rfl⟩⟩
  rcases (show j < k ∨ j = k by omega) with q | q
  · have := h.1 j q; omega
  · subst q; exact ⟨h0, Int.le_refl _⟩
theorem MaxOf.inR {l : List Int} {M : Int} (h : MaxOf l l.length M) {W : Nat} (hW : M < 2 ^ W) : Bt.InR W l := by
  intro x hx
  obtain ⟨j, hj, rfl⟩ := List.getElem_of_mem hx
  have := h.1 j hj
  simp only [List.getD, List.getElem?_eq_getElem hj, Option.getD_some] at this
  omega
theorem MaxOf.less {l : List Int} {M : Int} (h : MaxOf l l.length M) {W : Nat} (hW : (2 : Int) ^ W ≤ M) : ¬ Bt.InR W l := by
  intro hR
  rcases h.2 with q | ⟨j, hj, q⟩
  · have := Bt.p0 W; omega
  · have := hR (l.getD j 0) (by simp [List.getD, hj])
    omega

set_option maxRecDepth 100000 in
set_option maxHeartbeats 4000000 in
theorem bitsWide_in (A : Option Addr) (m c r : Nat) (l : List Int) (w : World) (hS : Wd.Sl w .i64 A m c l) (hF : Wd.Fits .i64 l) (hm : m ≤ 600) (hr : r ≤ 20) :
    Calls Try.prog 7 #[.slice A m c, .int .i64 r] w fun e w' => e = .returned (.bool true) ∧ Below w.heap.size w w' := by
  have hcap := hS.cap
  have hl := hS.len
  have Hl := Lib.hid hl
  have HF := Lib.hid hF
  have d1 : decide ((r : Int) < 0) = false := decide_eq_false (by omega)
  have d2 : decide (20 < (r : Int)) = false := decide_eq_false (by omega)
  have d3 : decide (600 < (m : Int)) = false := decide_eq_false (by omega)
  clear hl hF
  go_enter Try.func7, Try.ntmps7
  go_wp2_with fail
  refine (awake_any w).mono ?_
  rintro e w1 ⟨rfl, hB⟩
  have hS1 := hS.below hB
  clear hS
  go_wp2_with fail
  go_loop [6, 7] (fun s i => ∃ (k : Nat) (M : Int), i = .int .i64 k ∧ k ≤ m ∧ s = .int .i64 M ∧ 0 ≤ M ∧ M ≤ 9223372036854775807 ∧ MaxOf l k M) (fun _ i => m - (intOf i).toNat)
  case atStart => exact ⟨0, 0, rfl, Nat.zero_le _, rfl, Int.le_refl _, by omega, fun j hj => by omega, .inl rfl⟩
  case round =>
    obtain ⟨k, M, rfl, hk, rfl, hM0, hM1, hM⟩ := hrel
    by_cases hlt : k < m
    · have hkl : k < l.length := by rw [← Hl.out]; exact hlt
      obtain ⟨b, o, rfl, hbB, hcell⟩ := hS1.rd k hkl
      have hx2 := i64_of_fits HF.out k hkl
      have hkeep := hM.keep
      have hmore := hM.more hkl
      obtain ⟨x, hx⟩ : ∃ x, x = l.getD k 0 := ⟨_, rfl⟩
      rw [← hx] at hcell hx2 hkeep hmore
      obtain ⟨hx0, hx1⟩ := hx2
      have HK := Lib.hid hkeep
      have HM := Lib.hid hmore
      clear hx hkeep hmore hM hkl
      rcases (show x < 0 ∨ (0 ≤ x ∧ x ≤ M) ∨ (0 ≤ x ∧ M < x) by omega) with q | ⟨q, q2⟩ | ⟨q, q2⟩
      · go_wp2_with fail
        go_ret
        exact ⟨rfl, hB⟩
      · go_wp2_with fail
        go_round
        case rel => exact ⟨k + 1, M, by go_num, by omega, rfl, hM0, hM1, HK.out q q2⟩
        case measure => simp [intOf]; omega
      · go_wp2_with fail
        go_round
        case rel => exact ⟨k + 1, x, by go_num, by omega, rfl, q, hx1, HM.out q q2⟩
        case measure => simp [intOf]; omega
    · obtain rfl : k = m := by omega
      rw [Hl.out] at hM
      have hw63 := wid_63 M hM1
      have cw := fun w => Width_any M w (by omega) hM1
      have hlt2 : ∀ V : Nat, wid M ≤ V → M < 2 ^ V := fun V h => (wid_le V M).1 h
      have hge : ∀ V : Nat, V < wid M → 2 ^ V ≤ M := fun V h => by
        have := (wid_le V M)
        refine Int.not_lt.1 fun q => ?_
        have := this.2 q
        omega
      obtain ⟨W, hWW⟩ : ∃ W, W = wid M := ⟨_, rfl⟩
      rw [← hWW] at hw63 cw hlt2 hge
      have Cw := Lib.hid cw
      clear hWW cw
      by_cases hbig : 62 < W + r
      · clear hlt2 hge hM
        go_wp2_with fail
        refine (Cw.out w1).mono ?_
        rintro e w2 ⟨rfl, rfl⟩
        go_wp2_with fail
        go_ret
        exact ⟨rfl, hB⟩
      · have hl4 : l.length ≤ 4096 := by rw [← Hl.out]; omega
        have hR1 : Bt.InR W l := hM.inR (hlt2 W (Nat.le_refl _))
        have hR2 : Bt.InR (W + r) l := hM.inR (hlt2 (W + r) (by omega))
        have e2 : ((W + r : Nat) : Int) = (W : Int) + (r : Int) := by simp
        have c1 := fun w hS => pack_any A k c W l w hS
        rw [packE_ok (by omega) hl4 hR1] at c1
        have c2 := fun w hS => pack_any A k c ((W + r : Nat) : Int) l w hS
        rw [packE_ok (by omega) hl4 hR2] at c2
        have hb1 : (packL l W).length ≤ 1000000 := by
          rw [packL_len (by omega) hl4 hR1]
          have := Nat.mul_le_mul hl4 (show W ≤ 62 by omega)
          omega
        have hb2 : (packL l ((W + r : Nat) : Int)).length ≤ 1000000 := by
          rw [packL_len (by omega) hl4 hR2]
          have := Nat.mul_le_mul hl4 (show W + r ≤ 62 by omega)
          omega
        have c3 := fun B n j w hS hn => unpack_any B n j (l.length : Int) W (packL l W) w hS (packL_byt l W) hn
        rw [un_packE (by omega) hl4 hR1, un_packL (by omega) hl4 hR1, ← Hl.out] at c3
        have c4 := fun B n j w hS hn => unpack_any B n j (l.length : Int) ((W + r : Nat) : Int) (packL l ((W + r : Nat) : Int)) w hS (packL_byt l _) hn
        rw [un_packE (by omega) hl4 hR2, un_packL (by omega) hl4 hR2, ← Hl.out] at c4
        generalize packL l W = xs at *
        generalize packL l ((W + r : Nat) : Int) = ys at *
        rw [e2] at c2 c4
        have c5 : 1 ≤ W → ∀ w, Wd.Sl w .i64 A k c l → Calls Try.prog 10 #[.slice A k c, .int .i64 ((W : Int) - 1)] w (Wd.Out2 w .u8 [] 1) := by
          intro h1 w hS
          have hno : ¬ Bt.InR (W - 1) l := hM.less (hge (W - 1) (by omega))
          have := pack_any A k c ((W - 1 : Nat) : Int) l w hS
          have hE : packE l ((W - 1 : Nat) : Int) = 1 := by
            rcases packE_short (wd := ((W - 1 : Nat) : Int)) (l := l) hl4 with h | h
            · obtain ⟨V, hV, _, _, hV2⟩ := packE_inv h
              exact absurd (by rw [show W - 1 = V by omega]; exact hV2) hno
            · exact h
          rw [packL, hE, if_neg (by omega)] at this
          rw [show ((W - 1 : Nat) : Int) = (W : Int) - 1 by omega] at this
          exact this
        have C1 := Lib.hid c1
        have C2 := Lib.hid c2
        have C3 := Lib.hid c3
        have C4 := Lib.hid c4
        have C5 := Lib.hid c5
        clear c1 c2 c3 c4 c5 hlt2 hge hM hR1 hR2 e2 hl4
        go_wp2_with fail
        refine (Cw.out w1).mono ?_
        rintro e w2 ⟨rfl, rfl⟩
        go_wp2_with fail
        refine (C1.out w1 hS1).mono ?_
        rintro e w2 ⟨A2, n2, k2, rfl, hS2, hB2⟩
        have hn2 : n2 ≤ 1000000 := by rw [hS2.len]; exact hb1
        have hW2 : Below w.heap.size w w2 := hB.trans (hB2.mono hB.size)
        have hS12 := hS1.below hB2
        clear hB hS1 hB2 C1
        go_wp2_with fail
        refine (C2.out w2 hS12).mono ?_
        rintro e w3 ⟨A3, n3, k3, rfl, hS3, hB3⟩
        have hn3 : n3 ≤ 1000000 := by rw [hS3.len]; exact hb2
        have hW3 : Below w.heap.size w w3 := hW2.trans (hB3.mono hW2.size)
        have hS13 := hS12.below hB3
        have hS23 := hS2.below hB3
        clear hW2 hS12 hS2 hB3 C2
        go_wp2_with fail
        refine (C3.out A2 n2 k2 w3 hS23 hn2).mono ?_
        rintro e w4 ⟨A4, n4, k4, rfl, hS4, hB4⟩
        have hW4 : Below w.heap.size w w4 := hW3.trans (hB4.mono hW3.size)
        have hS14 := hS13.below hB4
        have hS34 := hS3.below hB4
        clear hW3 hS13 hS23 hS3 hB4 C3
        go_wp2_with fail
        refine (C4.out A3 n3 k3 w4 hS34 hn3).mono ?_
        rintro e w5 ⟨A5, n5, k5, rfl, hS5, hB5⟩
        have hW5 : Below w.heap.size w w5 := hW4.trans (hB5.mono hW4.size)
        have hS15 := hS14.below hB5
        have hS45 := hS4.below hB5
        clear hW4 hS14 hS34 hS4 hB5 C4
        go_wp2_with fail
        refine (ints_yes A4 A5 n4 n5 k4 k5 l l w5 hS45 hS5 rfl).mono ?_
        rintro e w6 ⟨rfl, hB6⟩
        have hW6 : Below w.heap.size w w6 := hW5.trans (hB6.mono hW5.size)
        have hS16 := hS15.below hB6
        have hS46 := hS45.below hB6
        clear hW5 hS15 hS45 hS5 hB6
        go_wp2_with fail
        refine (ints_yes A4 A n4 k k4 c l l w6 hS46 hS16 rfl).mono ?_
        rintro e w7 ⟨rfl, hB7⟩
        have hW7 : Below w.heap.size w w7 := hW6.trans (hB7.mono hW6.size)
        have hS17 := hS16.below hB7
        clear hW6 hS16 hS46 hB7
        by_cases h1 : 1 ≤ W
        · have hc := C5.out h1 w7 hS17
          have Hc := Lib.hid hc
          clear hc C5
          go_wp2_with fail
          refine Hc.out.mono ?_
          rintro e w8 ⟨A8, n8, k8, rfl, hS8, hB8⟩
          go_wp2_with fail
          go_ret
          exact ⟨rfl, hW7.trans (hB8.mono hW7.size)⟩
        · go_wp2_with fail
          go_ret
          exact ⟨rfl, hW7⟩

set_option maxRecDepth 100000 in
set_option maxHeartbeats 1000000 in
theorem bitsWide_walk (A : Option Addr) (m c : Nat) (l : List Int) (more : Int) (w : World) (hS : Wd.Sl w .i64 A m c l) (hF : Wd.Fits .i64 l) (_m1 : -9223372036854775808 ≤ more) (_m2 : more ≤ 9223372036854775807) :
    Calls Try.prog 7 #[.slice A m c, .int .i64 more] w fun e w' => e = .returned (.bool true) ∧ Below w.heap.size w w' := by
  have hcap := hS.cap
  have hmax := hS.max
  unfold maxLen at hmax
  rcases (show 600 < m ∨ (m ≤ 600 ∧ more < 0) ∨ (m ≤ 600 ∧ 0 ≤ more ∧ 20 < more) ∨ (m ≤ 600 ∧ 0 ≤ more ∧ more ≤ 20) by omega) with h | ⟨h, h2⟩ | ⟨h, h2, h3⟩ | ⟨h, h2, h3⟩
  · go_enter Try.func7, Try.ntmps7
    go_wp2_with fail
    refine (awake_any w).mono ?_
    rintro e w1 ⟨rfl, hB⟩
    go_wp2_with fail
    go_ret
    exact ⟨rfl, hB⟩
  · go_enter Try.func7, Try.ntmps7
    go_wp2_with fail
    refine (awake_any w).mono ?_
    rintro e w1 ⟨rfl, hB⟩
    go_wp2_with fail
    go_ret
    exact ⟨rfl, hB⟩
  · go_enter Try.func7, Try.ntmps7
    go_wp2_with fail
    refine (awake_any w).mono ?_
    rintro e w1 ⟨rfl, hB⟩
    go_wp2_with fail
    go_ret
    exact ⟨rfl, hB⟩
  · obtain ⟨r, rfl⟩ := Int.eq_ofNat_of_zero_le h2
    exact bitsWide_in A m c r l w hS hF h (by omega)
end Lw
end Go.Proofs.Ytadhppfplndhoaa
