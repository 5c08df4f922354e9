/- What bits.At and bits.hasOne do, for whatever bytes. -/
import Derived.Test.YtadhppfplndhoaaBitsTake
namespace Go.Proofs.Ytadhppfplndhoaa
open Go.RowKit
namespace Bc

theorem passBits_int (f : Nat) (cap : Array Value) (A : Option Addr) (m c B a cnt : Nat) (ai ci : Int) (bs : List Int) (V : Int) (Inv : Nat → World → Prop) (w : World) (ha : ai = (a : Int)) (hci : ci = (cnt : Int)) (hm : m = bs.length) (hmx : m ≤ 1000000) (hbd : a + cnt ≤ 8 * m) (hB : Bt.InR 8 bs) (hV : V = Bt.ofD 8 bs / 2 ^ a)
    (hf : Goes f) (hr : ∀ k w, Inv k w → Wd.Rd w B .u8 A bs) (hs : ∀ bit, (∀ k, k < cnt → bit k = V / 2 ^ k % 2) → Takes f cap bit cnt Inv) (h0 : Inv 0 w) :
    Calls Try.prog 27 #[.slice A m c, .int .i64 ai, .int .i64 ci, .func (.func f) #[] cap] w fun e w' => e = .returned (.tuple #[]) ∧ Inv cnt w' := by
  subst ha hci
  refine passBits_any f cap A m c B a cnt bs Inv w hm hmx hbd hB hf hr (hs _ fun k hk => ?_) h0
  have hp := Bt.p0 a
  rw [getD_bit hB (a + k) (by rw [← hm]; omega), hV, Int.ediv_ediv_of_nonneg (by omega), Int.pow_add]

theorem mul_cast (i wd : Nat) : (i : Int) * (wd : Int) = ((i * wd : Nat) : Int) := by simp

set_option maxHeartbeats 400000 in
theorem at_yes (A : Option Addr) (m c i wd : Nat) (bs : List Int) (w : World) (hS : Wd.Sl w .u8 A m c bs) (hB : Bt.InR 8 bs) (hm : m ≤ 1000000) (hwd : wd ≤ 62) (hi : i ≤ 1099511627776) (hfit : (i + 1) * wd ≤ 8 * m) :
    Calls Try.prog 18 #[.slice A m c, .int .i64 i, .int .i64 wd] w fun e w' => e = .returned (.int .i64 (Bt.dig wd (Bt.ofD 8 bs) i)) ∧ Below w.heap.size w w' := by
  have hmf : ∀ (fn : Fn) (first cap : Array Value) (w : World), (Instr.makeFunc fn first cap).run Try.prog w = .ok (.func fn first cap) w := fun _ _ _ _ => rfl
  have e1 : ((i : Int) + 1) * (wd : Int) = (((i + 1) * wd : Nat) : Int) := by simp
  have e2 := mul_cast i wd
  have hfit2 : i * wd + wd ≤ 8 * m := by rw [Nat.add_mul, Nat.one_mul] at hfit; exact hfit
  have p1 : ((i : Int) + 1) * (wd : Int) ≤ 8 * (m : Int) := by rw [e1]; omega
  have p2 : 0 ≤ ((i : Int) + 1) * (wd : Int) := by rw [e1]; omega
  have p3 : (i : Int) * (wd : Int) ≤ 8 * (m : Int) := by rw [e2]; omega
  have p4 : 0 ≤ (i : Int) * (wd : Int) := by rw [e2]; omega
  have E2 := Lib.hid e2
  have hl := hS.len
  have hrd := hS.rd
  have Hl := Lib.hid hl
  have Hrd := Lib.hid hrd
  have hfin : Bt.ofD 8 bs / 2 ^ (i * wd) % 2 ^ wd = Bt.dig wd (Bt.ofD 8 bs) i := by unfold Bt.dig; rw [Nat.mul_comm]
  have Hfin := Lib.hid hfin
  clear e1 e2 hl hrd hfin hS
  go_enter Try.func18, Try.ntmps18
  go_wp2_with fail
  refine (isWidth_yes _ _ (by omega) (by omega)).mono ?_
  rintro e w' ⟨rfl, rfl⟩
  go_wp2_with fail
  refine (passBits_int _ _ A m c w.heap.size (i * wd) wd _ _ bs (Bt.ofD 8 bs / 2 ^ (i * wd)) (AtI w w.heap.size w.heap.size (w.heap.size + 1) (Bt.ofD 8 bs / 2 ^ (i * wd))) _ E2.out rfl Hl.out hm hfit2 hB rfl goes_at (fun k w' hI => Hrd.out.below hI.2.2) (fun bit hbit => at_takes w w.heap.size w.heap.size (w.heap.size + 1) wd _ bit hbit hwd (Nat.le_refl _) (by omega) (by omega)) ?_).mono ?_
  · have h1 := (Wd.Var.new w 3 (.int .i64 0)).alloc (.cells #[.int .i64 0] 3)
    have h2 := Wd.Var.new (w.alloc (.cells #[.int .i64 0] 3)) 3 (.int .i64 0)
    refine ⟨?_, ?_, ((Below.refl _ _).alloc (Nat.le_refl _) _).alloc (by simp) _⟩
    · have : Bt.ofD 8 bs / 2 ^ (i * wd) % 2 ^ 0 = 0 := by simp
      rw [this]; exact h1
    · simpa using h2
  rintro e w1 ⟨rfl, hI⟩
  have c7 := hI.1.cell
  have hBl := hI.2.2
  rw [Hfin.out] at c7
  clear hI
  go_wp2_with fail
  go_ret
  exact ⟨rfl, hBl⟩

/-- What At answers. -/
def AtOk (n : Nat) (i wd : Int) : Prop := 0 ≤ wd ∧ wd ≤ 62 ∧ 0 ≤ i ∧ i ≤ 1099511627776 ∧ (i + 1) * wd ≤ 8 * (n : Int)
instance (n : Nat) (i wd : Int) : Decidable (AtOk n i wd) := by unfold AtOk; infer_instance
def atV (bs : List Int) (i wd : Int) : Int := if AtOk bs.length i wd then Bt.dig wd.toNat (Bt.ofD 8 bs) i.toNat else 0

set_option maxHeartbeats 400000 in
theorem at_no (A : Option Addr) (m c : Nat) (i wd : Int) (w : World) (hm : m ≤ 1000000) (i1 : -9223372036854775808 ≤ i) (i2 : i ≤ 9223372036854775807) (h : ¬ AtOk m i wd) :
    Calls Try.prog 18 #[.slice A m c, .int .i64 i, .int .i64 wd] w fun e w' => e = .returned (.int .i64 0) ∧ Below w.heap.size w w' := by
  by_cases hw : 0 ≤ wd ∧ wd ≤ 62
  · obtain ⟨w1, w2⟩ := hw
    rcases (show i < 0 ∨ (0 ≤ i ∧ 1099511627776 < i) ∨ (0 ≤ i ∧ i ≤ 1099511627776) by omega) with q | ⟨q, q2⟩ | ⟨q, q2⟩
    · go_enter Try.func18, Try.ntmps18
      go_wp2_with fail
      refine (isWidth_yes _ _ w1 w2).mono ?_
      rintro e w' ⟨rfl, rfl⟩
      go_wp2_with fail
      go_ret
      exact ⟨rfl, Below.refl _ _⟩
    · go_enter Try.func18, Try.ntmps18
      go_wp2_with fail
      refine (isWidth_yes _ _ w1 w2).mono ?_
      rintro e w' ⟨rfl, rfl⟩
      go_wp2_with fail
      go_ret
      exact ⟨rfl, Below.refl _ _⟩
    · have p1 : 8 * (m : Int) < (i + 1) * wd := by
        have : ¬ (i + 1) * wd ≤ 8 * (m : Int) := fun e => h ⟨w1, w2, q, q2, e⟩
        omega
      have p2 : (i + 1) * wd ≤ 68169720922174 := by
        have h1 := Int.mul_le_mul_of_nonneg_left w2 (show 0 ≤ i + 1 by omega)
        omega
      clear h
      go_enter Try.func18, Try.ntmps18
      go_wp2_with fail
      refine (isWidth_yes _ _ w1 w2).mono ?_
      rintro e w' ⟨rfl, rfl⟩
      go_wp2_with fail
      go_ret
      exact ⟨rfl, Below.refl _ _⟩
  · clear h
    have hw' : wd < 0 ∨ 62 < wd := by omega
    have Hw := Lib.hid hw'
    clear hw hw'
    go_enter Try.func18, Try.ntmps18
    go_wp2_with fail
    refine (isWidth_no _ _ Hw.out).mono ?_
    rintro e w' ⟨rfl, rfl⟩
    go_wp2_with fail
    go_ret
    exact ⟨rfl, Below.refl _ _⟩

theorem at_any (A : Option Addr) (m c : Nat) (i wd : Int) (bs : List Int) (w : World) (hS : Wd.Sl w .u8 A m c bs) (hB : Bt.InR 8 bs) (hm : m ≤ 1000000) (i1 : -9223372036854775808 ≤ i) (i2 : i ≤ 9223372036854775807) :
    Calls Try.prog 18 #[.slice A m c, .int .i64 i, .int .i64 wd] w fun e w' => e = .returned (.int .i64 (atV bs i wd)) ∧ Below w.heap.size w w' := by
  unfold atV
  by_cases h : AtOk bs.length i wd
  · rw [if_pos h]
    obtain ⟨h1, h2, h3, h4, h5⟩ := h
    obtain ⟨j, rfl⟩ := Int.eq_ofNat_of_zero_le h3
    obtain ⟨k, rfl⟩ := Int.eq_ofNat_of_zero_le h1
    have e1 : ((j : Int) + 1) * (k : Int) = (((j + 1) * k : Nat) : Int) := by simp
    rw [e1] at h5
    refine at_yes A m c j k bs w hS hB hm (by omega) (by omega) ?_
    rw [hS.len]
    omega
  · rw [if_neg h]
    exact at_no A m c i wd w hm i1 i2 (by rw [hS.len]; exact h)

set_option maxHeartbeats 400000 in
theorem hasOne_any (A : Option Addr) (m c a : Nat) (bs : List Int) (w : World) (hS : Wd.Sl w .u8 A m c bs) (hB : Bt.InR 8 bs) (hm : m ≤ 1000000) (ha : a ≤ 8 * m) :
    Calls Try.prog 26 #[.slice A m c, .int .i64 a] w fun e w' => e = .returned (.bool (decide (Bt.ofD 8 bs / 2 ^ a ≠ 0))) ∧ Below w.heap.size w w' := by
  have hmf : ∀ (fn : Fn) (first cap : Array Value) (w : World), (Instr.makeFunc fn first cap).run Try.prog w = .ok (.func fn first cap) w := fun _ _ _ _ => rfl
  have hl := hS.len
  have hrd := hS.rd
  have hp := Bt.p0 a
  have hV0 : 0 ≤ Bt.ofD 8 bs / 2 ^ a := Int.ediv_nonneg (Bt.ofD_lo hB) (by omega)
  have hV1 : Bt.ofD 8 bs / 2 ^ a < 2 ^ (8 * m - a) := by
    refine Int.ediv_lt_of_lt_mul hp ?_
    rw [← Int.pow_add, show 8 * m - a + a = 8 * m by omega, hl]
    exact Bt.ofD_hi hB
  have hmod : Bt.ofD 8 bs / 2 ^ a % 2 ^ (8 * m - a) = Bt.ofD 8 bs / 2 ^ a := Int.emod_eq_of_lt hV0 hV1
  have Hl := Lib.hid hl
  have Hrd := Lib.hid hrd
  have Hmod := Lib.hid hmod
  clear hl hrd hS hmod hV0 hV1 hp
  have HB := Lib.hid hB
  clear hB
  generalize hVV : Bt.ofD 8 bs / 2 ^ a = V at *
  have HV := Lib.hid hVV
  clear hVV
  go_enter Try.func26, Try.ntmps26
  go_wp2_with fail
  refine (passBits_int _ _ A m c w.heap.size a (8 * m - a) _ _ bs V (OneI w w.heap.size w.heap.size V) _ rfl (by omega) Hl.out hm (by omega) HB.out HV.out.symm goes_one (fun k w' hI => Hrd.out.below hI.2) (fun bit hbit => one_takes w w.heap.size w.heap.size _ V bit hbit (Nat.le_refl _)) ?_).mono ?_
  · have h1 := Wd.Var.new w 3 (.int .i64 0)
    refine ⟨?_, (Below.refl _ _).alloc (Nat.le_refl _) _⟩
    have : (if V % 2 ^ 0 = 0 then (0 : Int) else 1) = 0 := by simp
    rw [this]; exact h1
  rintro e w1 ⟨rfl, hI⟩
  have c7 := hI.1.cell
  have hBl := hI.2
  rw [Hmod.out] at c7
  clear hI
  by_cases hV : V = 0
  · rw [if_pos hV] at c7
    have HV2 := Lib.hid hV
    clear hV
    go_wp2_with fail
    go_ret
    exact ⟨congrArg (fun b : Bool => Ending.returned (.bool b)) (decide_eq_false (by simpa using HV2.out)).symm, hBl⟩
  · rw [if_neg hV] at c7
    have HV2 := Lib.hid hV
    clear hV
    go_wp2_with fail
    go_ret
    exact ⟨congrArg (fun b : Bool => Ending.returned (.bool b)) (decide_eq_true HV2.out).symm, hBl⟩
end Bc
end Go.Proofs.Ytadhppfplndhoaa
