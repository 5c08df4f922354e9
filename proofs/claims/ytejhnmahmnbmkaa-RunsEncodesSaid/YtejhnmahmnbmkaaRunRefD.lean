/- What the reference function Encode of layer 3 does. -/
import Derived.Test.YtejhnmahmnbmkaaRunRefC
import Derived.Test.YtejhnmahmnbmkaaRunEnc
namespace Go.Proofs.Ytejhnmahmnbmkaa
open Go.RowKit
namespace Rc
open Nc

/-- Three slices in a row: the bytes of the three kinds. -/
def sv (a : Nat → Option Addr) (n c : Nat → Nat) (k : Nat) : Value := .slice (a k) (n k) (c k)
def BodI (W : World) (g : Nat) (l : List Int) (a : Nat → Option Addr) (n c : Nat → Nat) : Prop :=
  Wd.Bx W g 33 #[sv a n c 0, sv a n c 1, sv a n c 2] ∧ ∀ k, k < 3 → Wd.Sl W .u8 (a k) (n k) (c k) (Rn.body l k)
theorem BodI.below {W W' : World} {g : Nat} {l : List Int} {a : Nat → Option Addr} {n c : Nat → Nat} (h : BodI W g l a n c) (hb : Below W.heap.size W W') : BodI W' g l a n c :=
  ⟨h.1.below h.1.lt hb, fun k hk => (h.2 k hk).below hb⟩
theorem BodI.cell {W : World} {g : Nat} {l : List Int} {a : Nat → Option Addr} {n c : Nat → Nat} (h : BodI W g l a n c) (k : Nat) (hk : k < 3) : W.cell? ⟨g, k, none⟩ = some (.slice (a k) (n k) (c k)) := by
  rw [h.1.cell]
  match k, hk with
  | 0, _ => rfl
  | 1, _ => rfl
  | 2, _ => rfl
def pick3 {α : Type} (x y z : α) : Nat → α | 0 => x | 1 => y | _ => z

set_option maxRecDepth 100000 in
set_option maxHeartbeats 2000000 in
theorem refEncode_ok (A : Option Addr) (m c : Nat) (l : List Int) (w : World) (hS : Wd.Sl w .i64 A m c l) (hm : m ≤ 4096) (hF : Rn.Fits l) :
    Calls Try.prog 21 #[.slice A m c] w (Wd.Out2 w .u8 (Rn.enc l) 0) := by
  obtain ⟨i0, hi, hz0, hz1, hz2⟩ := info_parts info_u8
  have hl := hS.len
  have Hl := Lib.hid hl
  have hcap := hS.cap
  have HF := Lib.hid hF
  have hdm : decide ((4096 : Int) < (m : Int)) = false := by simp; omega
  have hdl := Rn.deltas_len l
  have c1 := fun w hS => refPlain_any A m c l w hS (by omega) hF
  have c2 := fun w hS => refRunB_any A m c l w hS hm hF
  have c3 := fun w hS => refDeltas_any A m c l w hS (by omega) hF
  have c4 := fun A m c w hS hm => refPlain_any A m c (Rn.deltas l) w hS hm (Rn.deltas_fits l)
  have hd2 : (Rn.deltas l).length ≤ 100000 := by omega
  have C1 := Lib.hid c1
  have C2 := Lib.hid c2
  have C3 := Lib.hid c3
  have C4 := Lib.hid c4
  clear hl hF hdl c1 c2 c3 c4
  go_enter Try.func21, Try.ntmps21
  go_wp2_with fail
  refine (C1.out w hS).mono ?_
  rintro e w1 ⟨A1, n1, k1, rfl, hS1, hB1⟩
  have hSw1 := hS.below hB1
  clear hS
  go_wp2_with fail
  refine (C2.out w1 hSw1).mono ?_
  rintro e w2 ⟨A2, n2, k2, rfl, hS2, hB2⟩
  have hSw2 := hSw1.below hB2
  have hS12 := hS1.below hB2
  have hW2 : Below w.heap.size w w2 := hB1.trans (hB2.mono hB1.size)
  clear hSw1 hS1 hB1 hB2
  go_wp2_with fail
  refine (C3.out w2 hSw2).mono ?_
  rintro e w3 ⟨A3, n3, k3, rfl, hS3, hB3⟩
  have hn3 : n3 ≤ 100000 := by rw [hS3.len]; exact hd2
  have hS13 := hS12.below hB3
  have hS23 := hS2.below hB3
  have hW3 : Below w.heap.size w w3 := hW2.trans (hB3.mono hW2.size)
  clear hSw2 hS12 hS2 hW2 hB3
  go_wp2_with fail
  refine (C4.out A3 n3 k3 w3 hS3 hn3).mono ?_
  rintro e w4 ⟨A4, n4, k4, rfl, hS4, hB4⟩
  have hS14 := hS13.below hB4
  have hS24 := hS23.below hB4
  have hW4 : Below w.heap.size w w4 := hW3.trans (hB4.mono hW3.size)
  clear hS13 hS23 hS3 hW3 hB4
  have hI : BodI (w4.alloc (.cells #[.slice A1 n1 k1, .slice A2 n2 k2, .slice A4 n4 k4] 33)) w4.heap.size l (pick3 A1 A2 A4) (pick3 n1 n2 n4) (pick3 k1 k2 k4) := by
    refine ⟨Wd.Bx.new _ _ _, fun k hk => ?_⟩
    have hb : Below w4.heap.size w4 (w4.alloc (.cells #[.slice A1 n1 k1, .slice A2 n2 k2, .slice A4 n4 k4] 33)) := (Below.refl _ _).alloc (Nat.le_refl _) _
    match k, hk with
    | 0, _ => exact hS14.below hb
    | 1, _ => exact hS24.below hb
    | 2, _ => exact hS4.below hb
  have hW5 : Below w.heap.size w (w4.alloc (.cells #[.slice A1 n1 k1, .slice A2 n2 k2, .slice A4 n4 k4] 33)) := hW4.alloc hW4.size _
  generalize pick3 A1 A2 A4 = af at *
  generalize pick3 n1 n2 n4 = nf at *
  generalize pick3 k1 k2 k4 = cf at *
  obtain ⟨G, hG⟩ : ∃ G, G = w4.heap.size := ⟨_, rfl⟩
  rw [← hG] at hI
  go_wp2_with fail
  rw [← hG]
  generalize w4.alloc (.cells #[.slice A1 n1 k1, .slice A2 n2 k2, .slice A4 n4 k4] 33) = w5 at *
  clear hS14 hS24 hS4 hW4 hG C1 C2 C3 C4
  go_loopw [5, 6] (fun b i wr => ∃ (k j q : Nat), i = .int .i64 k ∧ b = .int .i64 j ∧ 1 ≤ k ∧ k ≤ 3 ∧ j < 3 ∧ Hid (j = Rn.bi l k) ∧ wr = w5.drewN q) (fun _ i _ => 3 - (intOf i).toNat)
  case atStart => exact ⟨1, 0, 0, rfl, rfl, by omega, by omega, by omega, Lib.hid (Rn.bi_one l).symm, rfl⟩
  case round =>
    obtain ⟨k, j, q, rfl, rfl, hk1, hk3, hj3, hj, rfl⟩ := hrel
    by_cases hlt : k < 3
    · have ck := hI.cell k hlt
      have cj := hI.cell j hj3
      have hE : Rn.bi l (k + 1) = if nf k < nf j then k else j := by
        rw [(hI.2 k hlt).len, (hI.2 j hj3).len, Rn.bi, ← hj.out]
      have HE := Lib.hid hE
      have hI' := Lib.hid hI
      have i1 : (k : Int) < 3 := by omega
      have i2 : (j : Int) < 3 := by omega
      have i3 : (0 : Int) ≤ (k : Int) := by omega
      have i4 : (0 : Int) ≤ (j : Int) := by omega
      have bk : nf k ≤ 9223372036854775807 := by have h := hI.2 k hlt; have h1 := h.cap; have h2 := h.max; unfold maxLen at h2; omega
      have bj : nf j ≤ 9223372036854775807 := by have h := hI.2 j hj3; have h1 := h.cap; have h2 := h.max; unfold maxLen at h2; omega
      clear hE hI
      by_cases hq : nf k < nf j
      · have hdq : decide ((nf k : Int) < (nf j : Int)) = true := by simpa using hq
        have hdq2 : decide (nf k < nf j) = true := by simpa using hq
        go_wp2_with fail
        go_quiet (fail)
        go_wp2_with fail
        go_roundw
        case rel => exact ⟨k + 1, k, _, by go_num, rfl, by omega, by omega, hlt, Lib.hid (by rw [HE.out, if_pos hq]), rfl⟩
        case measure => simp [intOf]; omega
      · have hdq : decide ((nf k : Int) < (nf j : Int)) = false := by simpa using hq
        have hdq2 : decide (nf k < nf j) = false := by simpa using hq
        go_wp2_with fail
        go_quiet (fail)
        go_wp2_with fail
        go_roundw
        case rel => exact ⟨k + 1, j, _, by go_num, rfl, by omega, by omega, hj3, Lib.hid (by rw [HE.out, if_neg hq]), rfl⟩
        case measure => simp [intOf]; omega
    · obtain rfl : k = 3 := by omega
      have hwj : IntKind.u8.wrap (j : Int) = (j : Int) := by
        match j, hj3 with
        | 0, _ => rfl
        | 1, _ => rfl
        | 2, _ => rfl
      have cj := hI.cell j hj3
      have hbj := (hI.2 j hj3)
      have hbl := Rn.body_len l j
      have c5 := fun w => refPutLen_any (m : Int) w (by omega) (by omega)
      rw [if_neg (show ¬ (m : Int) < 0 by omega)] at c5
      have C5 := Lib.hid c5
      have hvl := Nm.vd_len (m : Int)
      have HI := Lib.hid hI
      have i2 : (j : Int) < 3 := by omega
      have hb6 : Below w5.heap.size w5 (w5.drewN q) := Wd.below_drewN (Below.refl _ _) q
      rw [← Hl.out] at hbl
      obtain ⟨w6, hw6⟩ : ∃ w6, w6 = w5.drewN q := ⟨_, rfl⟩
      rw [← hw6] at hb6 ⊢
      have hW6 : Below w.heap.size w w6 := hW5.trans (hb6.mono hW5.size)
      have hI6 := hI.below hb6
      have HI6 := Lib.hid hI6
      clear c5 hI cj hbj hw6 hI6
      go_wp2_with fail
      have own0 : (w6.alloc (.cells #[.int .u8 (j : Int)] 5)).ownsRow w6.heap.size 5 1 (.slice (some ⟨w6.heap.size, 0, none⟩) 1 1) [(j : Int)].length ([(j : Int)].map (Value.int .u8)) := World.ownsRow_lit w6 _ 1 (Nat.le_refl _) (by simp [maxLen]) rfl
      have hba : Below w6.heap.size w6 (w6.alloc (.cells #[.int .u8 (j : Int)] 5)) := (Below.refl _ _).alloc (Nat.le_refl _) _
      refine (C5.out _).mono ?_
      rintro e w7 ⟨A7, n7, c7, rfl, hS7, hB7⟩
      have own7 := Wd.own_below own0 hB7
      have hb7 : Below w6.heap.size w6 w7 := hba.trans (hB7.mono hba.size)
      have Hn7 := Lib.hid hS7.len
      have hz7 := hb7.size
      obtain ⟨vs, hvs⟩ : ∃ vs, vs = Nm.vd (m : Int) := ⟨_, rfl⟩
      rw [← hvs] at hS7 hvl
      have Hvs := Lib.hid hvs
      obtain ⟨hv1, hv2⟩ := hvl
      clear hvs own0 hba hB7
      go_wp2_with (first | (at_builtin; refine Wd.wpList_app _ rfl (.tmp 38) (.tmp 41) 33 rfl w6.heap.size 5 i0 _ .u8 1 Try.underlying33 hi hz0 hz1 hz2 rfl _ [(j : Int)] rfl own7 w7.heap.size A7 n7 c7 vs rfl hS7.len hS7.nil hS7.rd (by simp; omega) (by simp [maxLen]; omega) hz7 ?_; intro v8 w8 own8 hg8; have hb8 : Below w6.heap.size w6 w8 := hb7.grown hg8 hz7 (fun g hg => (own7.lt g hg).1); have hI8 := HI6.out.below hb8; have cj := hI8.cell j hj3; have hS8 := hI8.2 j hj3; have HI8 := Lib.hid hI8; clear hI8; have hz8 := hb8.size; have hl8 : (Rn.body l j).length ≤ 100000 := by omega) | (at_builtin; refine Wd.wpList_app _ rfl (.tmp 43) (.tmp 47) 33 rfl w6.heap.size 5 i0 _ .u8 1 Try.underlying33 hi hz0 hz1 hz2 rfl v8 ([(j : Int)] ++ vs) rfl own8 w8.heap.size (af j) (nf j) (cf j) (Rn.body l j) rfl hS8.len hS8.nil hS8.rd (by simp; omega) (by simp [maxLen]; omega) hz8 ?_; intro v9 w9 own9 hg9))
      have hb9 : Below w6.heap.size w6 w9 := hb8.grown hg9 hz8 (fun g hg => (own8.lt g hg).1)
      obtain ⟨A9, n9, c9, rfl, hS9⟩ := Wd.Sl.of_own own9
      go_ret2
      refine ⟨A9, n9, c9, rfl, ?_, hW6.trans (hb9.mono hW6.size)⟩
      have eb : ([(j : Int)] ++ vs) ++ Rn.body l j = Rn.enc l := by
        unfold Rn.enc Rn.block
        rw [Hvs.out, Hl.out, ← hj.out]
        rfl
      rw [eb] at hS9
      exact hS9

theorem refEncode_long (A : Option Addr) (m c : Nat) (w : World) (h : 4096 < m) (h2 : m ≤ 9223372036854775807) :
    Calls Try.prog 21 #[.slice A m c] w (Wd.Out2 w .u8 [] 2) := by
  go_enter Try.func21, Try.ntmps21
  go_wp2_with fail
  go_ret2
  exact Wd.Out2.err _ _ _ _ (Below.refl _ _)
end Rc
end Go.Proofs.Ytejhnmahmnbmkaa
