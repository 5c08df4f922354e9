/- What the small reference functions of layer 2 do: Width, number, value, spread. -/
import Derived.Test.YtadhppfplndhoaaBitsPack
namespace Go.Proofs.Ytadhppfplndhoaa
open Go.RowKit
namespace Bc

theorem refWidth_any (n : Int) (w : World) (h1 : -9223372036854775808 ≤ n) (h2 : n ≤ 9223372036854775807) :
    Calls Try.prog 14 #[.int .i64 n] w fun e w' => e = .returned (.int .i64 (wid n)) ∧ w = w' := by
  have hw := wid_63 n h2
  go_enter Try.func14, Try.ntmps14
  go_wp2_with fail
  go_loop [4, 3] (fun i d => ∃ (u : Int) (k : Nat), i = .int .i64 u ∧ d = .int .i64 k ∧ -9223372036854775808 ≤ u ∧ u ≤ 9223372036854775807 ∧ k + wid u = wid n) (fun i _ => (intOf i).toNat)
  case atStart => exact ⟨n, 0, rfl, rfl, h1, h2, by omega⟩
  case round =>
    obtain ⟨u, k, rfl, rfl, u1, u2, hk⟩ := hrel
    have Hk := Lib.hid hk
    have hk' : k ≤ 63 := by omega
    clear hk
    by_cases hlt : 0 < u
    · go_wp2_with fail
      go_round
      case rel =>
        have := Hk.out
        rw [wid_hi u hlt] at this
        refine ⟨u / 2, k + 1, rfl, by go_num, by omega, by omega, by omega⟩
      case measure => simp [intOf]; omega
    · go_wp2_with fail
      go_ret
      have := Hk.out
      rw [wid_lo u (by omega)] at this
      exact ⟨congrArg (fun x : Nat => Ending.returned (.int .i64 x)) (by simpa using this), rfl⟩

theorem toD1_succ (j : Nat) (n : Int) : Bt.toD 1 (j + 1) n = Bt.toD 1 j n ++ [n / 2 ^ j % 2] := by
  rw [Bt.toD_add]
  simp [Bt.toD, Bt.dig]

set_option maxHeartbeats 400000 in
theorem number_any (n : Int) (wd : Nat) (w : World) (h0 : 0 ≤ n) (h1 : n ≤ 9223372036854775807) (hwd : wd ≤ 62) :
    Calls Try.prog 24 #[.int .i64 n, .int .i64 wd] w (Wd.Out w .i64 (Bt.toD 1 wd n)) := by
  obtain ⟨i0, hi, hz0, hz1, hz2⟩ := info_parts info_int
  go_enter Try.func24, Try.ntmps24
  go_wp2_with fail
  go_loopw [0, 5, 6] (fun i v k wr => ∃ (j : Nat) (u : Int), k = .int .i64 j ∧ j ≤ wd ∧ i = .int .i64 u ∧ u = n / 2 ^ j ∧ wr.ownsRow w.heap.size 3 1 v (Bt.toD 1 j n).length ((Bt.toD 1 j n).map (Value.int .i64)) ∧ Below w.heap.size w wr) (fun _ _ k _ => wd - (intOf k).toNat)
  case atStart => exact ⟨0, n, rfl, Nat.zero_le _, rfl, by simp, World.ownsRow_nil _ _ _ _, Below.refl _ _⟩
  case round =>
    obtain ⟨j, u, rfl, hj, rfl, hu, hown, hb⟩ := hrel
    have hu0 : 0 ≤ u := by rw [hu]; exact Int.ediv_nonneg h0 (by have := Bt.p0 j; omega)
    have hu1 : u ≤ 9223372036854775807 := by rw [hu]; have := Int.ediv_le_self (2 ^ j) h0; omega
    have Hu := Lib.hid hu
    have hsz := hb.size
    have hln := Bt.toD_len 1 j n
    have hln' : (Bt.toD 1 j n).length ≤ 62 := by omega
    clear hu hln
    by_cases hlt : j < wd
    · go_wp2_with (at_builtin; refine Wd.wpList_app _ rfl (.tmp 12) (.tmp 15) 22 rfl w.heap.size 3 i0 _ .i64 8 Try.underlying22 hi hz0 hz1 hz2 rfl _ (Bt.toD 1 j n) rfl (hown.alloc _) (wr.heap.size + 1) _ 1 1 [u % 2] rfl rfl (by simp) (Wd.Rd.lit wr .i64 [u % 2] _ _ rfl) (by simp; omega) (by simp [maxLen]; omega) (by simp; omega) ?_; intro v' w1 hown' hgrow)
      have hb' : Below w.heap.size w w1 := (hb.alloc hsz _).grown hgrow (by simp; omega) (fun g hg => (hown.lt g hg).1)
      have e : Bt.toD 1 j n ++ [u % 2] = Bt.toD 1 (j + 1) n := by rw [toD1_succ, Hu.out]
      rw [e] at hown'
      clear e hown hgrow hb
      go_roundw
      case rel =>
        refine ⟨j + 1, u / 2, by go_num, by omega, rfl, ?_, hown', hb'⟩
        have hp := Bt.p0 j
        rw [Hu.out, Int.ediv_ediv_of_nonneg (by omega), Int.pow_succ]
      case measure => simp [intOf]; omega
    · go_wp2_with fail
      go_ret
      obtain rfl : j = wd := by omega
      exact Wd.Out.of_own hown hb

theorem ofD1_lt {l : List Int} (h : Bt.InR 1 l) (n : Nat) (hn : l.length ≤ n) : Bt.ofD 1 l < 2 ^ n := by
  have h1 := Bt.ofD_hi h
  have h2 := Bt.pup (show 1 * l.length ≤ n by omega)
  omega

set_option maxHeartbeats 400000 in
theorem value_any (A : Option Addr) (m c : Nat) (l : List Int) (w : World) (hS : Wd.Sl w .i64 A m c l) (hB : Bt.InR 1 l) (hm : m ≤ 62) :
    Calls Try.prog 25 #[.slice A m c] w fun e w' => e = .returned (.int .i64 (Bt.ofD 1 l)) ∧ w = w' := by
  have hl := hS.len
  have Hl := Lib.hid hl
  have HB := Lib.hid hB
  clear hl hB
  go_enter Try.func25, Try.ntmps25
  go_wp2_with fail
  go_loop [3, 4] (fun s i => ∃ (k : Nat) (u : Int), i = .int .i64 ((k : Int) - 1) ∧ k ≤ m ∧ s = .int .i64 u ∧ u = Bt.ofD 1 (l.drop k)) (fun _ i => (intOf i + 1).toNat)
  case atStart => exact ⟨m, 0, rfl, Nat.le_refl _, rfl, by rw [List.drop_of_length_le (by rw [← Hl.out]; exact Nat.le_refl _)]; rfl⟩
  case round =>
    obtain ⟨k, u, rfl, hk, rfl, hu⟩ := hrel
    have hR : Bt.InR 1 (l.drop k) := fun x hx => HB.out x (List.mem_of_mem_drop hx)
    have hu0 : 0 ≤ u := by rw [hu]; exact Bt.ofD_lo hR
    have Hu := Lib.hid hu
    by_cases hlt : 0 < k
    · obtain ⟨j, rfl⟩ : ∃ j, k = j + 1 := ⟨k - 1, by omega⟩
      have hu1 : u < 2305843009213693952 := by
        rw [hu]
        have := ofD1_lt hR 61 (by rw [List.length_drop, ← Hl.out]; omega)
        rwa [show (2 : Int) ^ 61 = 2305843009213693952 by decide] at this
      have hjl : j < l.length := by rw [← Hl.out]; omega
      obtain ⟨b, o, rfl, hbB, hcell⟩ := hS.rd j hjl
      obtain ⟨x, hx⟩ : ∃ x, x = l.getD j 0 := ⟨_, rfl⟩
      have hx2 := HB.out x (by rw [hx]; simp [List.getD, hjl])
      have hx0 := hx2.1
      have hx1 : x ≤ 1 := by have := hx2.2; omega
      rw [← hx] at hcell
      have Hx := Lib.hid hx
      have i0 : (0 : Int) ≤ (j : Int) := by omega
      clear hx hx2 hu hR hjl
      go_wp2_with fail
      go_round
      case rel =>
        refine ⟨j, x + 2 * u, by go_num, by omega, by go_num, ?_⟩
        have hjl : j < l.length := by rw [← Hl.out]; omega
        rw [Hu.out, List.drop_eq_getElem_cons hjl, Hx.out]
        simp [Bt.ofD, List.getD, hjl]
      case measure => simp [intOf]
    · obtain rfl : k = 0 := by omega
      clear hu hR
      go_wp2_with fail
      go_ret
      refine ⟨?_, rfl⟩
      have := Hu.out
      rw [List.drop_zero] at this
      exact ret_int this

theorem InR.take {wd : Nat} {l : List Int} (h : Bt.InR wd l) (k : Nat) : Bt.InR wd (l.take k) := fun x hx => h x (List.mem_of_mem_take hx)
theorem take_next (l : List Int) (k : Nat) (h : k < l.length) : l.take (k + 1) = l.take k ++ [l.getD k 0] := by
  rw [List.take_succ_eq_append_getElem h]
  simp [List.getD, h]

set_option maxHeartbeats 400000 in
theorem spread_any (A : Option Addr) (m c : Nat) (bs : List Int) (w : World) (hS : Wd.Sl w .u8 A m c bs) (hB : Bt.InR 8 bs) (hm : m ≤ 1000000) :
    Calls Try.prog 29 #[.slice A m c] w (Wd.Out w .i64 (Bt.toD 1 (8 * m) (Bt.ofD 8 bs))) := by
  obtain ⟨i0, hi, hz0, hz1, hz2⟩ := info_parts info_int
  have hl := hS.len
  have Hl := Lib.hid hl
  have HB := Lib.hid hB
  clear hl hB
  go_enter Try.func29, Try.ntmps29
  go_wp2_with fail
  go_loopw [3, 4] (fun v i wr => ∃ (k : Nat), i = .int .i64 k ∧ k ≤ m ∧ wr.ownsRow w.heap.size 3 1 v (Bt.toD 1 (8 * k) (Bt.ofD 8 (bs.take k))).length ((Bt.toD 1 (8 * k) (Bt.ofD 8 (bs.take k))).map (Value.int .i64)) ∧ Below w.heap.size w wr) (fun _ i _ => m - (intOf i).toNat)
  case atStart => exact ⟨0, rfl, Nat.zero_le _, World.ownsRow_nil _ _ _ _, Below.refl _ _⟩
  case round =>
    obtain ⟨k, rfl, hk, hown, hb⟩ := hrel
    have hsz := hb.size
    have hln' : (Bt.toD 1 (8 * k) (Bt.ofD 8 (bs.take k))).length ≤ 8000000 := by rw [Bt.toD_len]; omega
    by_cases hlt : k < m
    · have hkl : k < bs.length := by rw [← Hl.out]; exact hlt
      obtain ⟨b, o, rfl, hbB, hcell0⟩ := hS.rd k hkl
      have hcell := (hb.cell (p := ⟨b, o + k, none⟩) hbB).trans hcell0
      obtain ⟨x, hx⟩ : ∃ x, x = bs.getD k 0 := ⟨_, rfl⟩
      have hx2 := HB.out x (by rw [hx]; simp [List.getD, hkl])
      have hx0 := hx2.1
      have hx1 : x ≤ 255 := by have := hx2.2; rw [show (2 : Int) ^ 8 = 256 by decide] at this; omega
      rw [← hx] at hcell
      have e : Bt.toD 1 (8 * (k + 1)) (Bt.ofD 8 (bs.take (k + 1))) = Bt.toD 1 (8 * k) (Bt.ofD 8 (bs.take k)) ++ Bt.toD 1 8 x := by
        rw [take_next bs k hkl, ← hx, Nat.mul_add, Nat.mul_one]
        exact Bt.toD_snoc (InR.take HB.out k) (by rw [List.length_take]; omega)
      have He := Lib.hid e
      clear hx hx2 hcell0 e hkl
      generalize Bt.toD 1 (8 * k) (Bt.ofD 8 (bs.take k)) = xs at *
      go_wp2_with fail
      refine (number_any x 8 wr hx0 (by omega) (by omega)).mono ?_
      rintro e w1 ⟨A1, n1, c1, rfl, hS1, hB1⟩
      have hown1 := Wd.own_below hown hB1
      have hb1 : Below w.heap.size w w1 := hb.trans (hB1.mono hsz)
      have Hn1 := Lib.hid hS1.len
      have hl8 := Bt.toD_len 1 8 x
      have hl8' : (Bt.toD 1 8 x).length ≤ 8 := by omega
      have hlt1 := hown.lt
      have hsz1 := hb1.size
      clear hown hl8 hB1 hb
      go_wp2_with (at_builtin; refine Wd.wpList_app _ rfl (.tmp 11) (.tmp 17) 22 rfl w.heap.size 3 i0 _ .i64 8 Try.underlying22 hi hz0 hz1 hz2 rfl _ xs rfl hown1 w1.heap.size A1 n1 c1 (Bt.toD 1 8 x) rfl Hn1.out hS1.nil hS1.rd (by omega) (by unfold maxLen; omega) hsz1 ?_; intro v' w2 hown2 hgrow)
      have hb2 : Below w.heap.size w w2 := hb1.grown hgrow hsz1 (fun g hg => (hlt1 g hg).1)
      rw [← He.out] at hown2
      clear hown1 hgrow hb1 hlt1 hS1
      go_roundw
      case rel => exact ⟨k + 1, by go_num, by omega, hown2, hb2⟩
      case measure => simp [intOf]; omega
    · go_wp2_with fail
      go_ret
      obtain rfl : k = m := by omega
      rw [List.take_of_length_le (by rw [← Hl.out]; exact Nat.le_refl _)] at hown
      exact Wd.Out.of_own hown hb
end Bc
end Go.Proofs.Ytadhppfplndhoaa
