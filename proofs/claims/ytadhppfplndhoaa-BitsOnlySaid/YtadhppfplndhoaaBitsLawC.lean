/- The walk of the statement BitsOnly of layer 2. -/
import Derived.Test.YtadhppfplndhoaaBitsAwake
import Derived.Test.YtadhppfplndhoaaBitsLaws
namespace Go.Proofs.Ytadhppfplndhoaa
open Go.RowKit
namespace Lw
open Bc Nc

theorem byt_of' {bs : List Int} (h : Wd.Fits .u8 bs) : Bt.InR 8 bs := fun x hx => by
  have := h x hx
  simp [Lit.wf, IntKind.min, IntKind.max, IntKind.signed, IntKind.bits] at this
  rw [show (2 : Int) ^ 8 = 256 by decide]
  omega

set_option maxRecDepth 100000 in
set_option maxHeartbeats 4000000 in
theorem bitsOnly_ok (A : Option Addr) (m c N W : Nat) (bs : List Int) (w : World) (hS : Wd.Sl w .u8 A m c bs) (hby : Bt.InR 8 bs) (hm : m ≤ 600) (hW : W ≤ 62) (hN : N ≤ 4096) (hlen : bs.length = (N * W + 7) / 8) (hz : Bt.ofD 8 bs / 2 ^ (N * W) = 0) :
    Calls Try.prog 6 #[.slice A m c, .int .i64 N, .int .i64 W] w fun e w' => e = .returned (.bool true) ∧ Below w.heap.size w w' := by
  obtain ⟨i0, hi, hz0, hz1, hz2⟩ := info_parts info_u8
  have hcap := hS.cap
  have hmax := hS.max
  unfold maxLen at hmax
  have hl := hS.len
  have c1 := fun w hS => unpack_any A m c N W bs w hS hby (by omega)
  rw [unE_ok hW hN hlen hz, unL_ok hW hN hlen hz] at c1
  obtain ⟨q1, q2⟩ := pack_un hby hW hN hlen hz
  have c2 := fun B n k w hS => pack_any B n k W (Bt.toD W N (Bt.ofD 8 bs)) w hS
  rw [q1, q2] at c2
  have hby2 : Bt.InR 8 (bs ++ [0]) := hby.append (fun x hx => by simp at hx; subst hx; decide)
  have c3 := fun B n k w hS hn => unpack_any B n k N W (bs ++ [0]) w hS hby2 hn
  have q3 := unE_more (bs := bs) (n := N) (W := W) 0 hW hN hlen
  rw [unL, q3, if_neg (by omega)] at c3
  have c4 := fun (h : 0 < bs.length) w hS => (by
    have := unpack_any A (m - 1) c N W (bs.take (m - 1)) w hS (fun x hx => hby x (List.mem_of_mem_take hx)) (by omega)
    have q4 := unE_less hW hN hlen h
    rw [← hl] at q4
    rw [unL, q4, if_neg (by omega)] at this
    exact this : Calls Try.prog 15 #[.slice A (m - 1) c, .int .i64 N, .int .i64 W] w (Wd.Out2 w .i64 [] 6))
  have hin := Bt.toD_inR W N (Bt.ofD 8 bs)
  have hln := Bt.toD_len W N (Bt.ofD 8 bs)
  obtain ⟨p3, p4⟩ := pow62 W hW
  generalize Bt.toD W N (Bt.ofD 8 bs) = l at *
  have Hl := Lib.hid hl
  have Hln := Lib.hid hln
  have Hin := Lib.hid hin
  have C1 := Lib.hid c1
  have C2 := Lib.hid c2
  have C3 := Lib.hid c3
  have C4 := Lib.hid c4
  clear c1 c2 c3 c4 hl hln hin hlen hz q1 q2 q3 hby hby2
  go_enter Try.func6, Try.ntmps6
  go_wp2_with fail
  refine (awake_any w).mono ?_
  rintro e w1 ⟨rfl, hB⟩
  have hS1 := hS.below hB
  clear hS
  go_wp2_with fail
  refine (C1.out w1 hS1).mono ?_
  rintro e w2 ⟨A2, n2, k2, rfl, hS2, hB2⟩
  have hW2 : Below w.heap.size w w2 := hB.trans (hB2.mono hB.size)
  have hS12 := hS1.below hB2
  have hn2 : n2 = N := by rw [hS2.len]; exact Hln.out
  subst hn2
  clear hB hS1 hB2 C1
  go_wp2_with fail
  refine (C2.out A2 n2 k2 w2 hS2).mono ?_
  rintro e w3 ⟨A3, n3, k3, rfl, hS3, hB3⟩
  have hW3 : Below w.heap.size w w3 := hW2.trans (hB3.mono hW2.size)
  have hS13 := hS12.below hB3
  have hS23 := hS2.below hB3
  clear hW2 hS12 hS2 hB3 C2
  go_wp2_with fail
  refine (same_yes A A3 m n3 c k3 bs bs w3 hS13 hS3 rfl).mono ?_
  rintro e w4 ⟨rfl, hB4⟩
  have hW4 : Below w.heap.size w w4 := hW3.trans (hB4.mono hW3.size)
  have hS14 := hS13.below hB4
  have hS24 := hS23.below hB4
  have hbl : bs.length ≤ 600 := by rw [← Hl.out]; exact hm
  clear hW3 hS13 hS23 hS3 hB4
  go_wp2_with (first | (at_builtin; refine Wd.wpList_app _ rfl (.const (.slice none 0 0)) (.tmp 49) 24 rfl w4.heap.size 5 i0 _ .u8 1 Try.underlying24 hi hz0 hz1 hz2 rfl (.slice none 0 0) [] rfl (World.ownsRow_nil _ _ _ _) w4.heap.size A m c bs rfl Hl.out hS14.nil hS14.rd (by simp; omega) (by simp [maxLen]; omega) (Nat.le_refl _) ?_; intro v5 w5 hown5 hg5; have hb5 := (Below.refl w4.heap.size w4).grown hg5 (Nat.le_refl _) (by simp [Value.ownBlock]); have hz5 := hb5.size) | (at_builtin; refine Wd.wpList_app _ rfl (.tmp 50) (.tmp 51) 24 rfl w4.heap.size 5 i0 _ .u8 1 Try.underlying24 hi hz0 hz1 hz2 rfl v5 ([] ++ bs) rfl (hown5.alloc _) (w5.heap.size + 1) _ 1 1 [0] rfl rfl (by simp) (Wd.Rd.lit w5 .u8 [0] _ _ rfl) (by simp; omega) (by simp [maxLen]; omega) (by simp; omega) ?_; intro v6 w6 hown6 hg6; obtain ⟨A6, m6, k6, rfl, hS6⟩ := Wd.Sl.of_own hown6))
  have hb6 : Below w4.heap.size w4 w6 := (hb5.alloc hz5 _).grown hg6 (by simp; omega) (fun g hg => (hown5.lt g hg).1)
  have hW6 : Below w.heap.size w w6 := hW4.trans (hb6.mono hW4.size)
  have hS16 := hS14.below hb6
  have hS26 := hS24.below hb6
  rw [List.nil_append] at hS6
  have hm6 : m6 ≤ 1000000 := by rw [hS6.len]; simp; omega
  clear hown5 hown6 hg5 hg6 hb5 hb6 hS14 hS24 hW4 hz5
  refine (C3.out A6 m6 k6 w6 hS6 hm6).mono ?_
  rintro e w7 ⟨A7, n7, k7, rfl, hS7, hB7⟩
  have hW7 : Below w.heap.size w w7 := hW6.trans (hB7.mono hW6.size)
  have hS17 := hS16.below hB7
  have hS27 := hS26.below hB7
  clear hS6 hS7 hB7 hS16 hS26 hW6 C3
  go_wp2_with fail
  go_loop [15] (fun i => ∃ k : Nat, i = .int .i64 k ∧ k ≤ n2) (fun i => n2 - (intOf i).toNat)
  case atStart => exact ⟨0, rfl, Nat.zero_le _⟩
  case round =>
    obtain ⟨k, rfl, hk⟩ := hrel
    by_cases hlt : k < n2
    · have hkl : k < l.length := by rw [Hln.out]; exact hlt
      obtain ⟨b, o, rfl, hbB, hcell⟩ := hS27.rd k hkl
      obtain ⟨x, hx⟩ : ∃ x, x = l.getD k 0 := ⟨_, rfl⟩
      have hx2 := Hin.out x (by rw [hx]; simp [List.getD, hkl])
      obtain ⟨hx0, hx1⟩ := hx2
      have hx3 : x ≤ 9223372036854775807 := by omega
      have hwx : wid x ≤ W := (wid_le W x).2 hx1
      rw [← hx] at hcell
      clear hx hkl
      go_wp2_with fail
      refine (Width_any x w7 (by omega) hx3).mono ?_
      rintro e w8 ⟨rfl, rfl⟩
      go_wp2_with fail
      go_round
      case rel => exact ⟨k + 1, by go_num, by omega⟩
      case measure => simp [intOf]; omega
    · clear hS27
      rcases Nat.eq_zero_or_pos m with h0 | h0
      · subst h0
        go_wp2_with fail
        go_ret
        exact ⟨rfl, hW7⟩
      · have hH := hS17.head (m - 1) (by omega)
        have hc := C4.out (by rw [← Hl.out]; exact h0) w7 hH
        have Hc := Lib.hid hc
        have h1 : 1 ≤ m := h0
        have hne : ((m : Int) == 0) = false := by simp; omega
        clear hc hH C4
        go_wp2_with fail
        refine Hc.out.mono ?_
        rintro e w8 ⟨A8, n8, k8, rfl, hS8, hB8⟩
        go_wp2_with fail
        go_ret
        exact ⟨rfl, hW7.trans (hB8.mono hW7.size)⟩

set_option maxRecDepth 100000 in
set_option maxHeartbeats 1000000 in
theorem bitsOnly_err (A : Option Addr) (m c : Nat) (n wd : Int) (bs : List Int) (w : World) (hS : Wd.Sl w .u8 A m c bs) (hby : Bt.InR 8 bs) (hm : m ≤ 600) (hE : unE bs n wd ≠ 0) :
    Calls Try.prog 6 #[.slice A m c, .int .i64 n, .int .i64 wd] w fun e w' => e = .returned (.bool true) ∧ Below w.heap.size w w' := by
  have hcap := hS.cap
  have c1 := fun w hS => unpack_any A m c n wd bs w hS hby (by omega)
  rw [unL, if_neg hE] at c1
  generalize unE bs n wd = er at *
  have hne : (er != 0) = true := by rw [bne_iff_ne]; exact hE
  have C1 := Lib.hid c1
  clear c1 hE hby
  go_enter Try.func6, Try.ntmps6
  go_wp2_with fail
  refine (awake_any w).mono ?_
  rintro e w1 ⟨rfl, hB⟩
  have hS1 := hS.below hB
  clear hS
  go_wp2_with fail
  refine (C1.out w1 hS1).mono ?_
  rintro e w2 ⟨A2, n2, k2, rfl, hS2, hB2⟩
  have hW2 : Below w.heap.size w w2 := hB.trans (hB2.mono hB.size)
  obtain rfl : n2 = 0 := hS2.len
  clear hB hS1 hB2 C1
  go_wp2_with fail
  go_ret
  exact ⟨rfl, hW2⟩

set_option maxRecDepth 100000 in
theorem bitsOnly_walk (A : Option Addr) (m c : Nat) (bs : List Int) (n wd : Int) (w : World) (hS : Wd.Sl w .u8 A m c bs) (hF : Wd.Fits .u8 bs) (_n1 : -9223372036854775808 ≤ n) (_n2 : n ≤ 9223372036854775807) (_w1 : -9223372036854775808 ≤ wd) (_w2 : wd ≤ 9223372036854775807) :
    Calls Try.prog 6 #[.slice A m c, .int .i64 n, .int .i64 wd] w fun e w' => e = .returned (.bool true) ∧ Below w.heap.size w w' := by
  have hcap := hS.cap
  have hmax := hS.max
  unfold maxLen at hmax
  by_cases hl : 600 < m
  · go_enter Try.func6, Try.ntmps6
    go_wp2_with fail
    refine (awake_any w).mono ?_
    rintro e w1 ⟨rfl, hB⟩
    go_wp2_with fail
    go_ret
    exact ⟨rfl, hB⟩
  · by_cases hE : unE bs n wd = 0
    · obtain ⟨N, W, rfl, rfl, hW, hN, hlen, hz⟩ := unE_inv hE
      exact bitsOnly_ok A m c N W bs w hS (byt_of' hF) (by omega) hW hN hlen hz
    · exact bitsOnly_err A m c n wd bs w hS (byt_of' hF) (by omega) hE
end Lw
end Go.Proofs.Ytadhppfplndhoaa
