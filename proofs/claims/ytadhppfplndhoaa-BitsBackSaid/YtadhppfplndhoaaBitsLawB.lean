/- The walk of the statement BitsBack of layer 2. -/
import Derived.Test.YtadhppfplndhoaaBitsAwake
import Derived.Test.YtadhppfplndhoaaBitsLaws
import Derived.Deep.RegionWith
import Derived.Deep.DeepCutAuto
namespace Go.Proofs.Ytadhppfplndhoaa
open Go.RowKit
namespace Lw
open Bc Nc

set_option maxHeartbeats 2000000 in
theorem bitsBack_ok (A : Option Addr) (m c W : Nat) (l : List Int) (w : World) (hS : Wd.Sl w .i64 A m c l) (hm : m ≤ 600) (hW : W ≤ 62) (hR : Bt.InR W l) :
    Calls Try.prog 5 #[.slice A m c, .int .i64 W] w fun e w' => e = .returned (.bool true) ∧ Below w.heap.size w w' := by
  have hcap := hS.cap
  have hl := hS.len
  have hl4 : l.length ≤ 4096 := by omega
  have c1 := fun w hS => pack_any A m c W l w hS
  rw [packE_ok hW hl4 hR] at c1
  have hbl := packL_len hW hl4 hR
  have hby := packL_byt l W
  have c2 := fun B n k w hS hm => unpack_any B n k (m : Int) W (packL l W) w hS hby hm
  rw [hl, un_packE hW hl4 hR, un_packL hW hl4 hR, ← hl] at c2
  have c3 := fun (i : Nat) (hi : i < l.length) B n k w hS hm => (by
    have := at_any B n k (i : Int) W (packL l W) w hS hby hm (by omega) (by omega)
    rw [at_pack hW hl4 hR i hi] at this
    exact this : Calls Try.prog 18 #[.slice B n k, .int .i64 i, .int .i64 W] w fun e w' => e = .returned (.int .i64 (l.getD i 0)) ∧ Below w.heap.size w w')
  have hbl2 : (packL l W).length ≤ 1000000 := by
    rw [hbl]
    have := Nat.mul_le_mul hl4 hW
    omega
  have c4 := fun B n k w hS hm => at_any B n k (8 * ((packL l W).length : Int) + 1) W (packL l W) w hS hby hm (by omega) (by omega)
  rw [at_past _ W hbl2] at c4
  rw [← hl] at hbl
  generalize packL l W = bs at *
  obtain ⟨p1, p2⟩ := prod_le m W (by omega) hW
  have Hl := Lib.hid hl
  have Hbl := Lib.hid hbl
  have C1 := Lib.hid c1
  have C2 := Lib.hid c2
  have C3 := Lib.hid c3
  have C4 := Lib.hid c4
  clear c1 c2 c3 c4 hl hl4 hbl hR hby
  go_enter Try.func5, Try.ntmps5
  go_wp2_with fail
  refine (awake_any w).mono ?_
  rintro e w1 ⟨rfl, hB⟩
  have hS1 := hS.below hB
  clear hS
  go_wp2_with fail
  refine (C1.out w1 hS1).mono ?_
  rintro e w2 ⟨A2, n2, k2, rfl, hS2, hB2⟩
  have hW2 : Below w.heap.size w w2 := hB.trans (hB2.mono hB.size)
  have hS12 := hS1.below hB2
  have hn2 : n2 ≤ 1000000 := by rw [hS2.len]; exact hbl2
  have f1 : n2 ≤ (m * W + 7) / 8 := by rw [hS2.len, Hbl.out]; exact Nat.le_refl _
  have f2 : (m * W + 7) / 8 ≤ n2 := by rw [hS2.len, Hbl.out]; exact Nat.le_refl _
  have Hn2 := Lib.hid hS2.len
  clear hB hS1 hB2 C1
  go_wp2_with fail
  refine (C2.out A2 n2 k2 w2 hS2 hn2).mono ?_
  rintro e w3 ⟨A3, n3, k3, rfl, hS3, hB3⟩
  have hW3 : Below w.heap.size w w3 := hW2.trans (hB3.mono hW2.size)
  have hS23 := hS2.below hB3
  have hS13 := hS12.below hB3
  clear hW2 hS12 hS2 hB3 C2
  go_wp2_with fail
  refine (ints_yes A A3 m n3 c k3 l l w3 hS13 hS3 rfl).mono ?_
  rintro e w4 ⟨rfl, hB4⟩
  have hW4 : Below w.heap.size w w4 := hW3.trans (hB4.mono hW3.size)
  have hS24 := hS23.below hB4
  have hS14 := hS13.below hB4
  clear hW3 hS13 hS23 hB4 hS3
  have hne : ((n2 : Int) != ((m : Int) * (W : Int) + 7) / 8) = false := by
    have e : ((m : Int) * (W : Int) + 7) / 8 = (n2 : Int) := by
      have := mul_cast m W
      rw [this]
      omega
    rw [e]; simp
  go_wp2_with fail
  go_loopw [11] (fun i wr => ∃ k : Nat, i = .int .i64 k ∧ k ≤ m ∧ Wd.Sl wr .u8 A2 n2 k2 bs ∧ Wd.Sl wr .i64 A m c l ∧ Below w.heap.size w wr) (fun i _ => m - (intOf i).toNat)
  case atStart => exact ⟨0, rfl, Nat.zero_le _, hS24, hS14, hW4⟩
  case round =>
    clear hS24 hS14 hW4
    obtain ⟨k, rfl, hk, hS2, hS1, hWr⟩ := hrel
    by_cases hlt : k < m
    · have hkl : k < l.length := by rw [← Hl.out]; exact hlt
      obtain ⟨b, o, rfl, hbB, hcell⟩ := hS1.rd k hkl
      have hc := C3.out k hkl A2 n2 k2
      obtain ⟨x, hx⟩ : ∃ x, x = l.getD k 0 := ⟨_, rfl⟩
      rw [← hx] at hc hcell
      have Hc := Lib.hid hc
      clear hx hc hkl
      obtain ⟨wo, rfl⟩ : ∃ wo : World, wo = wr := ⟨_, rfl⟩
      have i1 : (k : Int) < (m : Int) := by omega
      go_upto_region 14 with fail
      go_cut [78] (fun s wx => s = .bool false ∧ Wd.Sl wx .u8 A2 n2 k2 bs ∧ Wd.Sl wx .i64 (some ⟨b, o, none⟩) m c l ∧ Below w.heap.size w wx)
      case first =>
        go_region_with (first | (go_at_call 18; refine (Hc.out _ (hS2.below ((Below.refl _ _).drew)) hn2).mono ?_; rintro e w5 ⟨rfl, hB5⟩; have hB5' : Below wo.heap.size wo w5 := Wd.of_drew hB5; have hcell5 := (hB5'.cell (p := ⟨b, o + k, none⟩) hbB).trans hcell))
        all_goals (go_wp2_with fail; go_meet; exact ⟨by simp, hS2.below hB5', hS1.below hB5', hWr.trans (hB5'.mono hWr.size)⟩)
      case rest =>
        obtain ⟨rfl, hS2', hS1', hW5⟩ := hcut
        clear hS2 hS1 hWr hcell
        go_wp2_with fail
        go_roundw
        case rel => exact ⟨k + 1, by go_num, by omega, hS2', hS1', hW5⟩
        case measure => simp [intOf]; omega
    · have hc := C4.out A2 n2 k2 wr hS2 hn2
      rw [← Hn2.out] at hc
      have Hc := Lib.hid hc
      clear hc
      go_wp2_with fail
      refine Hc.out.mono ?_
      rintro e w5 ⟨rfl, hB5⟩
      go_wp2_with fail
      go_ret
      exact ⟨rfl, hWr.trans (hB5.mono hWr.size)⟩

set_option maxHeartbeats 1000000 in
theorem bitsBack_err (A : Option Addr) (m c : Nat) (wd : Int) (l : List Int) (w : World) (hS : Wd.Sl w .i64 A m c l) (hm : m ≤ 600) (hE : packE l wd ≠ 0) :
    Calls Try.prog 5 #[.slice A m c, .int .i64 wd] w fun e w' => e = .returned (.bool true) ∧ Below w.heap.size w w' := by
  have hcap := hS.cap
  have hl := hS.len
  have c1 := fun w hS => pack_any A m c wd l w hS
  have h1 : packE l wd = 1 := by
    rcases packE_short (wd := wd) (l := l) (by omega) with h | h
    · exact absurd h hE
    · exact h
  rw [packL_err hE, h1] at c1
  have C1 := Lib.hid c1
  clear c1 hl hE h1
  go_enter Try.func5, Try.ntmps5
  go_wp2_with fail
  refine (awake_any w).mono ?_
  rintro e w1 ⟨rfl, hB⟩
  have hS1 := hS.below hB
  clear hS
  go_wp2_with fail
  refine (C1.out w1 hS1).mono ?_
  rintro e w2 ⟨A2, n2, k2, rfl, hS2, hB2⟩
  have hW2 : Below w.heap.size w w2 := hB.trans (hB2.mono hB.size)
  obtain rfl : n2 = 0 := hS2.len
  clear hB hS1 hB2 C1
  go_wp2_with fail
  go_ret
  exact ⟨rfl, hW2⟩

theorem bitsBack_walk (A : Option Addr) (m c : Nat) (l : List Int) (wd : Int) (w : World) (hS : Wd.Sl w .i64 A m c l) (_hF : Wd.Fits .i64 l) (_w1 : -9223372036854775808 ≤ wd) (_w2 : wd ≤ 9223372036854775807) :
    Calls Try.prog 5 #[.slice A m c, .int .i64 wd] w fun e w' => e = .returned (.bool true) ∧ Below w.heap.size w w' := by
  have hcap := hS.cap
  have hmax := hS.max
  unfold maxLen at hmax
  by_cases hl : 600 < m
  · go_enter Try.func5, Try.ntmps5
    go_wp2_with fail
    refine (awake_any w).mono ?_
    rintro e w1 ⟨rfl, hB⟩
    go_wp2_with fail
    go_ret
    exact ⟨rfl, hB⟩
  · by_cases hE : packE l wd = 0
    · obtain ⟨W, rfl, hW, _, hR⟩ := packE_inv hE
      exact bitsBack_ok A m c W l w hS (by omega) hW hR
    · exact bitsBack_err A m c wd l w hS (by omega) hE
end Lw
end Go.Proofs.Ytadhppfplndhoaa
