/- What bits.Pack does, for whatever numbers and width. -/
import Derived.Test.YtadhppfplndhoaaBitsUnpack
namespace Go.Proofs.Ytadhppfplndhoaa
open Go.RowKit
namespace Bc

theorem pow62 (wd : Nat) (h : wd ≤ 62) : (2 : Int) ^ wd ≤ 4611686018427387904 ∧ 0 < (2 : Int) ^ wd := by
  have h1 := Bt.pup h
  rw [show (2 : Int) ^ 62 = 4611686018427387904 by decide] at h1
  exact ⟨h1, Bt.p0 wd⟩
theorem i64_of_fits {l : List Int} (h : Wd.Fits .i64 l) (j : Nat) (hj : j < l.length) : -9223372036854775808 ≤ l.getD j 0 ∧ l.getD j 0 ≤ 9223372036854775807 := by
  have := h (l.getD j 0) (by simp [List.getD, hj])
  simpa [Lit.wf, show IntKind.i64.min = -9223372036854775808 from rfl] using this

set_option maxHeartbeats 800000 in
theorem pack_ok (A : Option Addr) (m c wd : Nat) (l : List Int) (w : World) (hS : Wd.Sl w .i64 A m c l) (hB : Bt.InR wd l) (hm : m ≤ 4096) (hwd : wd ≤ 62) :
    Calls Try.prog 10 #[.slice A m c, .int .i64 wd] w (Wd.Out2 w .u8 (Bt.toD 8 ((m * wd + 7) / 8) (Bt.ofD wd l)) 0) := by
  obtain ⟨i0, hi, hz0, hz1, hz2⟩ := info_parts info_u8
  have hmf : ∀ (fn : Fn) (first cap : Array Value) (w : World), (Instr.makeFunc fn first cap).run Try.prog w = .ok (.func fn first cap) w := fun _ _ _ _ => rfl
  obtain ⟨p1, p2⟩ := prod_le m wd hm hwd
  obtain ⟨p3, p4⟩ := pow62 wd hwd
  have E2 := Lib.hid (mul_cast m wd)
  have f1 : (m * wd + 7) / 8 ≤ 31745 := by have := mul_cast m wd; omega
  have f2 : wd * m ≤ 8 * ((m * wd + 7) / 8) := by rw [Nat.mul_comm wd m]; omega
  have hl := hS.len
  have Hl := Lib.hid hl
  have HB := Lib.hid hB
  have hcap := hS.cap
  clear hl hB
  generalize hN : (m * wd + 7) / 8 = N at *
  have HN := Lib.hid hN
  clear hN
  go_enter Try.func10, Try.ntmps10
  go_wp2_with fail
  refine (isWidth_yes _ _ (by omega) (by omega)).mono ?_
  rintro e w' ⟨rfl, rfl⟩
  go_wp2_with fail
  go_loop [18] (fun i => ∃ k : Nat, i = .int .i64 k ∧ k ≤ m) (fun i => m - (intOf i).toNat)
  case atStart => exact ⟨0, rfl, Nat.zero_le _⟩
  case round =>
    obtain ⟨k, rfl, hk⟩ := hrel
    by_cases hlt : k < m
    · obtain ⟨b, o, rfl, hbB, hcell⟩ := hS.rd k (by rw [← Hl.out]; exact hlt)
      obtain ⟨x, hx⟩ : ∃ x, x = l.getD k 0 := ⟨_, rfl⟩
      have hx2 : 0 ≤ x ∧ x < 2 ^ wd := HB.out x (by rw [hx]; simp [List.getD, show k < l.length by rw [← Hl.out]; exact hlt])
      obtain ⟨hx0, hx1⟩ := hx2
      rw [← hx] at hcell
      clear hx
      go_wp2_with fail
      go_round
      case rel => exact ⟨k + 1, by go_num, by omega⟩
      case measure => simp [intOf]; omega
    · go_wp2_with fail
      refine (bytesFor_any m wd _ hm hwd).mono ?_
      rintro e w' ⟨rfl, rfl⟩
      rw [HN.out]
      go_wp2_with (at_make; refine wpList_make_full _ rfl (.tmp 34) (.tmp 34) 24 rfl w.heap.size 5 i0 _ 1 Try.underlying24 hi hz0 hz1 .i64 .i64 N N N rfl rfl rfl rfl (by rw [hz2]; omega) (by unfold maxLen; omega) (Nat.le_refl _) ?_; intro w3 hown hgrow)
      have hb3 := (Below.refl w.heap.size w).grown hgrow (Nat.le_refl _) (by simp)
      rw [made_zero] at hown
      have hR := (Wd.Row.of_own hown).1
      have hg3 := hR.lt
      have Hr0 := Lib.hid (hS.rd)
      clear hown hgrow
      refine (passNumbers_any _ _ A m c w.heap.size wd l (PackI w w.heap.size w.heap.size w3.heap.size (w3.heap.size + 1) N (Bt.ofD wd l)) _ Hl.out hm hcap hwd HB.out goes_pack (fun k w' hI => Hr0.out.below hI.2.2.2)
        (pack_takes w w.heap.size w.heap.size w3.heap.size (w3.heap.size + 1) N _ _ _ (fun k hk => getD_bit HB.out k (by rw [← Hl.out]; exact hk)) (by omega) f2 (Nat.le_refl _) (by omega) (by omega) (by omega) (by omega)) ?_).mono ?_
      · refine ⟨?_, ?_, ?_, ?_⟩
        · rw [toD_zero]
          exact (hR.alloc _).alloc _
        · exact (Wd.Var.new _ _ _).alloc _
        · have := Wd.Var.new (w3.alloc (.cells #[.slice (some ⟨w.heap.size, 0, none⟩) N N] 24)) 3 (.int .i64 0)
          simpa using this
        · exact (hb3.alloc (by omega) _).alloc (by simp; omega) _
      rintro e w4 ⟨rfl, hI⟩
      have c9 := hI.2.1.cell
      have hBl := hI.2.2.2
      have hR4 := hI.1
      rw [Int.emod_eq_of_lt (Bt.ofD_lo HB.out) (by rw [Hl.out]; exact Bt.ofD_hi HB.out)] at hR4
      clear hI hR hb3 hg3
      go_wp2_with fail
      go_ret2
      exact ⟨_, N, N, rfl, hR4.sl N (by rw [Bt.toD_len]) (by unfold maxLen; omega), hBl⟩

theorem pack_arg (A : Option Addr) (m c : Nat) (wd : Int) (w : World) (h : wd < 0 ∨ 62 < wd) :
    Calls Try.prog 10 #[.slice A m c, .int .i64 wd] w (Wd.Out2 w .u8 [] 1) := by
  have Hw := Lib.hid h
  clear h
  go_enter Try.func10, Try.ntmps10
  go_wp2_with fail
  refine (isWidth_no _ _ Hw.out).mono ?_
  rintro e w' ⟨rfl, rfl⟩
  go_wp2_with fail
  go_ret2
  exact Wd.Out2.err _ _ _ _ (Below.refl _ _)
theorem pack_long (A : Option Addr) (m c : Nat) (wd : Int) (w : World) (h1 : 0 ≤ wd) (h2 : wd ≤ 62) (h3 : 4096 < m) (h4 : m ≤ 9223372036854775807) :
    Calls Try.prog 10 #[.slice A m c, .int .i64 wd] w (Wd.Out2 w .u8 [] 2) := by
  go_enter Try.func10, Try.ntmps10
  go_wp2_with fail
  refine (isWidth_yes _ _ h1 h2).mono ?_
  rintro e w' ⟨rfl, rfl⟩
  go_wp2_with fail
  go_ret2
  exact Wd.Out2.err _ _ _ _ (Below.refl _ _)
set_option maxHeartbeats 800000 in
theorem pack_bad (A : Option Addr) (m c wd : Nat) (l : List Int) (w : World) (hS : Wd.Sl w .i64 A m c l) (hm : m ≤ 4096) (hwd : wd ≤ 62) (j : Nat) (hj : j < m) (hbad : ¬ (0 ≤ l.getD j 0 ∧ l.getD j 0 < 2 ^ wd)) :
    Calls Try.prog 10 #[.slice A m c, .int .i64 wd] w (Wd.Out2 w .u8 [] 1) := by
  obtain ⟨p3, p4⟩ := pow62 wd hwd
  have hl := hS.len
  have Hl := Lib.hid hl
  have hcap := hS.cap
  have Hbad := Lib.hid hbad
  clear hl hbad
  go_enter Try.func10, Try.ntmps10
  go_wp2_with fail
  refine (isWidth_yes _ _ (by omega) (by omega)).mono ?_
  rintro e w' ⟨rfl, rfl⟩
  go_wp2_with fail
  go_loop [18] (fun i => ∃ k : Nat, i = .int .i64 k ∧ k ≤ j) (fun i => m - (intOf i).toNat)
  case atStart => exact ⟨0, rfl, Nat.zero_le _⟩
  case round =>
    obtain ⟨k, rfl, hk⟩ := hrel
    have hlt : k < m := by omega
    obtain ⟨b, o, rfl, hbB, hcell⟩ := hS.rd k (by rw [← Hl.out]; exact hlt)
    obtain ⟨x, hx⟩ : ∃ x, x = l.getD k 0 := ⟨_, rfl⟩
    rw [← hx] at hcell
    have Hx := Lib.hid hx
    clear hx
    rcases (show x < 0 ∨ (0 ≤ x ∧ x < 2 ^ wd) ∨ (0 ≤ x ∧ 2 ^ wd ≤ x) by omega) with q | ⟨q, q2⟩ | ⟨q, q2⟩
    · go_wp2_with fail
      go_ret2
      exact Wd.Out2.err _ _ _ _ (Below.refl _ _)
    · have hkj : k ≠ j := by
        intro e
        rw [← e, ← Hx.out] at Hbad
        exact Hbad.out ⟨q, q2⟩
      have hkj2 : k < j := by omega
      clear hkj
      go_wp2_with fail
      go_round
      case rel => exact ⟨k + 1, by go_num, by omega⟩
      case measure => simp [intOf]; omega
    · go_wp2_with fail
      go_ret2
      exact Wd.Out2.err _ _ _ _ (Below.refl _ _)

/-- The error's number, and the bytes, that Pack answers. -/
def inB (wd : Nat) (l : List Int) : Bool := l.all fun x => decide (0 ≤ x ∧ x < 2 ^ wd)
theorem inB_iff (wd : Nat) (l : List Int) : inB wd l = true ↔ Bt.InR wd l := by simp [inB, Bt.InR]
def packE (l : List Int) (wd : Int) : Int := if wd < 0 ∨ 62 < wd then 1 else if 4096 < l.length then 2 else if inB wd.toNat l then 0 else 1
def packL (l : List Int) (wd : Int) : List Int := if packE l wd = 0 then Bt.toD 8 ((l.length * wd.toNat + 7) / 8) (Bt.ofD wd.toNat l) else []

theorem pack_any (A : Option Addr) (m c : Nat) (wd : Int) (l : List Int) (w : World) (hS : Wd.Sl w .i64 A m c l) :
    Calls Try.prog 10 #[.slice A m c, .int .i64 wd] w (Wd.Out2 w .u8 (packL l wd) (packE l wd)) := by
  have hl := hS.len
  have hcap := hS.cap
  have hmax := hS.max
  unfold maxLen at hmax
  by_cases h1 : wd < 0 ∨ 62 < wd
  · have e : packE l wd = 1 := if_pos h1
    rw [packL, e, if_neg (by omega)]
    exact pack_arg A m c wd w h1
  · by_cases h2 : 4096 < l.length
    · have e : packE l wd = 2 := by unfold packE; rw [if_neg h1, if_pos h2]
      rw [packL, e, if_neg (by omega)]
      exact pack_long A m c wd w (by omega) (by omega) (by omega) (by omega)
    · obtain ⟨W, rfl⟩ := Int.eq_ofNat_of_zero_le (show 0 ≤ wd by omega)
      by_cases h3 : Bt.InR W l
      · have e : packE l W = 0 := by unfold packE; rw [if_neg h1, if_neg h2]; exact if_pos ((inB_iff W l).2 h3)
        rw [packL, e, if_pos rfl, ← hl]
        exact pack_ok A m c W l w hS h3 (by omega) (by omega)
      · have e : packE l W = 1 := by unfold packE; rw [if_neg h1, if_neg h2]; exact if_neg (fun q => h3 ((inB_iff W l).1 q))
        rw [packL, e, if_neg (by omega)]
        have : ∃ j, j < l.length ∧ ¬ (0 ≤ l.getD j 0 ∧ l.getD j 0 < 2 ^ W) := by
          refine Classical.byContradiction fun hno => h3 fun x hx => ?_
          obtain ⟨j, hj, rfl⟩ := List.getElem_of_mem hx
          refine Classical.byContradiction fun hb => hno ⟨j, hj, ?_⟩
          simpa [List.getD, hj] using hb
        obtain ⟨j, hj, hb⟩ := this
        exact pack_bad A m c W l w hS (by omega) (by omega) j (by omega) hb
end Bc
end Go.Proofs.Ytadhppfplndhoaa
