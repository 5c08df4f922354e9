/- The reference of layer 14: Few; Same of two that tell the same. From an argument as the statement reads it to the words of this seat: a slice of integers. -/
import Derived.ProofKit
import Derived.OpenShut
import Derived.Test.YtljgalleiemaaaaPk11
import Derived.Test.YtljgalleiemaaaaPk01
namespace Go.Proofs.Ytljgalleiemaaaa
set_option maxRecDepth 20000
open Go.RowKit
namespace Jr
open Jo (En May Wf Rg Pt endOf last app1)
open Wd (Pv Pc Es Lv Bx)
set_option maxHeartbeats 4000000 in
theorem few_any (p0 p1 p2 p3 : Pv) (w : World) : Calls Try.prog 16 #[.agg #[.int .i64 p0.g, .int .i64 p0.b, .slice p0.A p0.n p0.c, .int .i64 p1.g, .int .i64 p1.b, .slice p1.A p1.n p1.c, .int .i64 p2.g, .int .i64 p2.b, .slice p2.A p2.n p2.c, .int .i64 p3.g, .int .i64 p3.b, .slice p3.A p3.n p3.c]] w fun e w' => ∃ bb, e = .returned (.bool bb) ∧ (bb = true → Len p0 p1 p2 p3 100) ∧ Below w.heap.size w w' := by
  have b1 := Lib.hid (alS (Below.refl w.heap.size w) (.cells #[.int .i64 p0.g, .int .i64 p0.b, .slice p0.A p0.n p0.c, .int .i64 p1.g, .int .i64 p1.b, .slice p1.A p1.n p1.c, .int .i64 p2.g, .int .i64 p2.b, .slice p2.A p2.n p2.c, .int .i64 p3.g, .int .i64 p3.b, .slice p3.A p3.n p3.c] 27))
  by_cases h0 : p0.n ≤ 100
  · have i0 : ¬ (100 : Int) < (p0.n : Int) := by omega
    by_cases h1 : p1.n ≤ 100
    · have i1 : ¬ (100 : Int) < (p1.n : Int) := by omega
      by_cases h2 : p2.n ≤ 100
      · have i2 : ¬ (100 : Int) < (p2.n : Int) := by omega
        by_cases h3 : p3.n ≤ 100
        · have i3 : ¬ (100 : Int) < (p3.n : Int) := by omega
          have HH := Lib.hid (show Len p0 p1 p2 p3 100 from ⟨h0, h1, h2, h3⟩)
          clear h0 h1 h2 h3
          go_enter Try.func16, Try.ntmps16
          go_wp2_with fail
          refine wp_loop_rounds 5 ?_
          rw [rounds_succ]
          go_wp2_with fail
          rw [rounds_succ]
          go_wp2_with fail
          rw [rounds_succ]
          go_wp2_with fail
          rw [rounds_succ]
          go_wp2_with fail
          rw [rounds_succ]
          go_wp2_with fail
          go_ret
          exact ⟨true, rfl, fun _ => HH.out, b1.out⟩
        · have i3 : (100 : Int) < (p3.n : Int) := by omega
          clear h0 h1 h2 h3
          go_enter Try.func16, Try.ntmps16
          go_wp2_with fail
          refine wp_loop_rounds 5 ?_
          rw [rounds_succ]
          go_wp2_with fail
          rw [rounds_succ]
          go_wp2_with fail
          rw [rounds_succ]
          go_wp2_with fail
          rw [rounds_succ]
          go_wp2_with fail
          go_ret
          exact ⟨false, rfl, fun h => by simp at h, b1.out⟩
      · have i2 : (100 : Int) < (p2.n : Int) := by omega
        clear h0 h1 h2
        go_enter Try.func16, Try.ntmps16
        go_wp2_with fail
        refine wp_loop_rounds 5 ?_
        rw [rounds_succ]
        go_wp2_with fail
        rw [rounds_succ]
        go_wp2_with fail
        rw [rounds_succ]
        go_wp2_with fail
        go_ret
        exact ⟨false, rfl, fun h => by simp at h, b1.out⟩
    · have i1 : (100 : Int) < (p1.n : Int) := by omega
      clear h0 h1
      go_enter Try.func16, Try.ntmps16
      go_wp2_with fail
      refine wp_loop_rounds 5 ?_
      rw [rounds_succ]
      go_wp2_with fail
      rw [rounds_succ]
      go_wp2_with fail
      go_ret
      exact ⟨false, rfl, fun h => by simp at h, b1.out⟩
  · have i0 : (100 : Int) < (p0.n : Int) := by omega
    clear h0
    go_enter Try.func16, Try.ntmps16
    go_wp2_with fail
    refine wp_loop_rounds 5 ?_
    rw [rounds_succ]
    go_wp2_with fail
    go_ret
    exact ⟨false, rfl, fun h => by simp at h, b1.out⟩
set_option maxHeartbeats 8000000 in
theorem same_yes (p0 p1 p2 p3 : Pv) (A0 A1 A2 A3 : Option Addr) (c0 c1 c2 c3 : Nat) (w : World) (e0 : Es w p0.A p0.n p0.c p0.l) (f0 : Es w A0 p0.n c0 p0.l) (e1 : Es w p1.A p1.n p1.c p1.l) (f1 : Es w A1 p1.n c1 p1.l) (e2 : Es w p2.A p2.n p2.c p2.l) (f2 : Es w A2 p2.n c2 p2.l) (e3 : Es w p3.A p3.n p3.c p3.l) (f3 : Es w A3 p3.n c3 p3.l) :
    Calls Try.prog 12 #[.agg #[.int .i64 p0.g, .int .i64 p0.b, .slice p0.A p0.n p0.c, .int .i64 p1.g, .int .i64 p1.b, .slice p1.A p1.n p1.c, .int .i64 p2.g, .int .i64 p2.b, .slice p2.A p2.n p2.c, .int .i64 p3.g, .int .i64 p3.b, .slice p3.A p3.n p3.c], .agg #[.int .i64 p0.g, .int .i64 p0.b, .slice A0 p0.n c0, .int .i64 p1.g, .int .i64 p1.b, .slice A1 p1.n c1, .int .i64 p2.g, .int .i64 p2.b, .slice A2 p2.n c2, .int .i64 p3.g, .int .i64 p3.b, .slice A3 p3.n c3]] w fun e w' => e = .returned (.bool true) ∧ Below w.heap.size w w' := by
  have b1 := alS (alS (Below.refl w.heap.size w) (.cells #[.int .i64 p0.g, .int .i64 p0.b, .slice p0.A p0.n p0.c, .int .i64 p1.g, .int .i64 p1.b, .slice p1.A p1.n p1.c, .int .i64 p2.g, .int .i64 p2.b, .slice p2.A p2.n p2.c, .int .i64 p3.g, .int .i64 p3.b, .slice p3.A p3.n p3.c] 27)) (.cells #[.int .i64 p0.g, .int .i64 p0.b, .slice A0 p0.n c0, .int .i64 p1.g, .int .i64 p1.b, .slice A1 p1.n c1, .int .i64 p2.g, .int .i64 p2.b, .slice A2 p2.n c2, .int .i64 p3.g, .int .i64 p3.b, .slice A3 p3.n c3] 27)
  have z1 : (w.alloc (.cells #[.int .i64 p0.g, .int .i64 p0.b, .slice p0.A p0.n p0.c, .int .i64 p1.g, .int .i64 p1.b, .slice p1.A p1.n p1.c, .int .i64 p2.g, .int .i64 p2.b, .slice p2.A p2.n p2.c, .int .i64 p3.g, .int .i64 p3.b, .slice p3.A p3.n p3.c] 27)).heap.size = w.heap.size + 1 := by simp
  have pb := (Bx.new w 27 #[.int .i64 p0.g, .int .i64 p0.b, .slice p0.A p0.n p0.c, .int .i64 p1.g, .int .i64 p1.b, .slice p1.A p1.n p1.c, .int .i64 p2.g, .int .i64 p2.b, .slice p2.A p2.n p2.c, .int .i64 p3.g, .int .i64 p3.b, .slice p3.A p3.n p3.c]).alloc (.cells #[.int .i64 p0.g, .int .i64 p0.b, .slice A0 p0.n c0, .int .i64 p1.g, .int .i64 p1.b, .slice A1 p1.n c1, .int .i64 p2.g, .int .i64 p2.b, .slice A2 p2.n c2, .int .i64 p3.g, .int .i64 p3.b, .slice A3 p3.n c3] 27)
  have qb := Bx.new (w.alloc (.cells #[.int .i64 p0.g, .int .i64 p0.b, .slice p0.A p0.n p0.c, .int .i64 p1.g, .int .i64 p1.b, .slice p1.A p1.n p1.c, .int .i64 p2.g, .int .i64 p2.b, .slice p2.A p2.n p2.c, .int .i64 p3.g, .int .i64 p3.b, .slice p3.A p3.n p3.c] 27)) 27 #[.int .i64 p0.g, .int .i64 p0.b, .slice A0 p0.n c0, .int .i64 p1.g, .int .i64 p1.b, .slice A1 p1.n c1, .int .i64 p2.g, .int .i64 p2.b, .slice A2 p2.n c2, .int .i64 p3.g, .int .i64 p3.b, .slice A3 p3.n c3]
  rw [z1] at qb
  obtain ⟨w1, hw1⟩ : ∃ w1, w1 = (w.alloc (.cells #[.int .i64 p0.g, .int .i64 p0.b, .slice p0.A p0.n p0.c, .int .i64 p1.g, .int .i64 p1.b, .slice p1.A p1.n p1.c, .int .i64 p2.g, .int .i64 p2.b, .slice p2.A p2.n p2.c, .int .i64 p3.g, .int .i64 p3.b, .slice p3.A p3.n p3.c] 27)).alloc (.cells #[.int .i64 p0.g, .int .i64 p0.b, .slice A0 p0.n c0, .int .i64 p1.g, .int .i64 p1.b, .slice A1 p1.n c1, .int .i64 p2.g, .int .i64 p2.b, .slice A2 p2.n c2, .int .i64 p3.g, .int .i64 p3.b, .slice A3 p3.n c3] 27) := ⟨_, rfl⟩
  rw [← hw1] at b1 pb qb
  have HP0 := Lib.hid (e0.below b1)
  have HQ0 := Lib.hid (f0.below b1)
  have HP1 := Lib.hid (e1.below b1)
  have HQ1 := Lib.hid (f1.below b1)
  have HP2 := Lib.hid (e2.below b1)
  have HQ2 := Lib.hid (f2.below b1)
  have HP3 := Lib.hid (e3.below b1)
  have HQ3 := Lib.hid (f3.below b1)
  have PB := Lib.hid pb
  have QB := Lib.hid qb
  have B1 := Lib.hid b1
  have Hw1 := Lib.hid hw1
  have hgE : Try.prog.eqGuardType Try.prog.depth 32 = false := by kernel_rfl
  clear e0 f0 e1 f1 e2 f2 e3 f3 b1 z1 pb qb hw1
  go_enter Try.func12, Try.ntmps12
  go_upto_region 1 with fail
  rw [← Hw1.out]
  go_wp2_with fail
  go_loopw [5, 6] (fun i _ wr => ∃ k : Nat, i = .int .i64 k ∧ k ≤ 4 ∧ Hid (Below w1.heap.size w1 wr)) (fun i _ _ => 4 - (intOf i).toNat)
  case atStart => exact ⟨0, rfl, Nat.zero_le _, Lib.hid (Below.refl _ _)⟩
  case round =>
    obtain ⟨k, rfl, hk, hI⟩ := hrel
    obtain ⟨wo, rfl⟩ : ∃ wo : World, wo = wr := ⟨_, rfl⟩
    match k, hk with
    | 0, _ =>
      have px := PB.out.below PB.out.lt hI.out
      have qx := QB.out.below QB.out.lt hI.out
      obtain ⟨y0, y1, y2, z0, z1, z2⟩ := And.intro (px.cell 0) (And.intro (px.cell 1) (And.intro (px.cell 2) (And.intro (qx.cell 0) (And.intro (qx.cell 1) (qx.cell 2)))))
      have j1 : (p0.g == p0.g) = true := by simp
      have j2 : (p0.g != p0.g) = false := by simp
      have j3 : (p0.b == p0.b) = true := by simp
      have j4 : (p0.b != p0.b) = false := by simp
      have j5 : ((p0.n : Int) == (p0.n : Int)) = true := by simp
      have j6 : ((p0.n : Int) != (p0.n : Int)) = false := by simp
      have hmx := HP0.out.max
      unfold maxLen at hmx
      have hcp := HP0.out.cap
      have hcq := HQ0.out.cap
      clear px qx
      go_wp2_with fail
      go_quiet (fail)
      go_wp2_with fail
      clear y0 y1 y2 z0 z1 z2
      go_loopw [6] (fun i wr => ∃ m : Nat, i = .int .i64 m ∧ m ≤ p0.n ∧ Hid (Below w1.heap.size w1 wr)) (fun i _ => p0.n - (intOf i).toNat)
      case atStart => exact ⟨0, rfl, Nat.zero_le _, Lib.hid (Wd.below_drewN hI.out _)⟩
      case round =>
        obtain ⟨m, rfl, hm, hM⟩ := hrel
        have px := PB.out.below PB.out.lt hM.out
        have qx := QB.out.below QB.out.lt hM.out
        obtain ⟨y2, z2⟩ := And.intro (px.cell 2) (qx.cell 2)
        clear px qx
        by_cases hlt : m < p0.n
        · have hml : m < p0.l.length := by rw [← HP0.out.len]; exact hlt
          obtain ⟨x, hx⟩ : ∃ x, x = p0.l.getD m default := ⟨_, rfl⟩
          obtain ⟨pb1, pf1, hA1, -, u0, u1, u2, u3, u4, u5, u6, -⟩ := (HP0.out.below hM.out).cells hml hx
          obtain ⟨pb2, pf2, hA2, -, v0, v1, v2, v3, v4, v5, v6, -⟩ := (HQ0.out.below hM.out).cells hml hx
          rw [hA1] at y2
          rw [hA2] at z2
          have heq := fun w => eqE x.kind x.part x.id x.st x.en x.size x.sum x.kind x.part x.id x.st x.en x.size x.sum w
          have e1 : decide (x.kind = x.kind ∧ x.part = x.part ∧ x.id = x.id ∧ x.st = x.st ∧ x.en = x.en ∧ x.size = x.size ∧ x.sum = x.sum) = true := by simp
          rw [e1] at heq
          have hmI : (m : Int) < (p0.n : Int) := by omega
          clear hml hx hA1 hA2 e1
          go_wp2_with fail
          go_quiet (fail)
          go_wp2_with fail
          go_roundw
          case rel => exact ⟨m + 1, by go_num, by omega, Lib.hid (Wd.below_drewN hM.out _)⟩
          case measure => simp [intOf]; omega
        · have hmI : ¬ (m : Int) < (p0.n : Int) := by omega
          go_wp2_with fail
          go_roundw
          case rel => exact ⟨1, by go_num, by omega, hM⟩
          case measure => simp [intOf]
    | 1, _ =>
      have px := PB.out.below PB.out.lt hI.out
      have qx := QB.out.below QB.out.lt hI.out
      obtain ⟨y0, y1, y2, z0, z1, z2⟩ := And.intro (px.cell 3) (And.intro (px.cell 4) (And.intro (px.cell 5) (And.intro (qx.cell 3) (And.intro (qx.cell 4) (qx.cell 5)))))
      have j1 : (p1.g == p1.g) = true := by simp
      have j2 : (p1.g != p1.g) = false := by simp
      have j3 : (p1.b == p1.b) = true := by simp
      have j4 : (p1.b != p1.b) = false := by simp
      have j5 : ((p1.n : Int) == (p1.n : Int)) = true := by simp
      have j6 : ((p1.n : Int) != (p1.n : Int)) = false := by simp
      have hmx := HP1.out.max
      unfold maxLen at hmx
      have hcp := HP1.out.cap
      have hcq := HQ1.out.cap
      clear px qx
      go_wp2_with fail
      go_quiet (fail)
      go_wp2_with fail
      clear y0 y1 y2 z0 z1 z2
      go_loopw [6] (fun i wr => ∃ m : Nat, i = .int .i64 m ∧ m ≤ p1.n ∧ Hid (Below w1.heap.size w1 wr)) (fun i _ => p1.n - (intOf i).toNat)
      case atStart => exact ⟨0, rfl, Nat.zero_le _, Lib.hid (Wd.below_drewN hI.out _)⟩
      case round =>
        obtain ⟨m, rfl, hm, hM⟩ := hrel
        have px := PB.out.below PB.out.lt hM.out
        have qx := QB.out.below QB.out.lt hM.out
        obtain ⟨y2, z2⟩ := And.intro (px.cell 5) (qx.cell 5)
        clear px qx
        by_cases hlt : m < p1.n
        · have hml : m < p1.l.length := by rw [← HP1.out.len]; exact hlt
          obtain ⟨x, hx⟩ : ∃ x, x = p1.l.getD m default := ⟨_, rfl⟩
          obtain ⟨pb1, pf1, hA1, -, u0, u1, u2, u3, u4, u5, u6, -⟩ := (HP1.out.below hM.out).cells hml hx
          obtain ⟨pb2, pf2, hA2, -, v0, v1, v2, v3, v4, v5, v6, -⟩ := (HQ1.out.below hM.out).cells hml hx
          rw [hA1] at y2
          rw [hA2] at z2
          have heq := fun w => eqE x.kind x.part x.id x.st x.en x.size x.sum x.kind x.part x.id x.st x.en x.size x.sum w
          have e1 : decide (x.kind = x.kind ∧ x.part = x.part ∧ x.id = x.id ∧ x.st = x.st ∧ x.en = x.en ∧ x.size = x.size ∧ x.sum = x.sum) = true := by simp
          rw [e1] at heq
          have hmI : (m : Int) < (p1.n : Int) := by omega
          clear hml hx hA1 hA2 e1
          go_wp2_with fail
          go_quiet (fail)
          go_wp2_with fail
          go_roundw
          case rel => exact ⟨m + 1, by go_num, by omega, Lib.hid (Wd.below_drewN hM.out _)⟩
          case measure => simp [intOf]; omega
        · have hmI : ¬ (m : Int) < (p1.n : Int) := by omega
          go_wp2_with fail
          go_roundw
          case rel => exact ⟨2, by go_num, by omega, hM⟩
          case measure => simp [intOf]
    | 2, _ =>
      have px := PB.out.below PB.out.lt hI.out
      have qx := QB.out.below QB.out.lt hI.out
      obtain ⟨y0, y1, y2, z0, z1, z2⟩ := And.intro (px.cell 6) (And.intro (px.cell 7) (And.intro (px.cell 8) (And.intro (qx.cell 6) (And.intro (qx.cell 7) (qx.cell 8)))))
      have j1 : (p2.g == p2.g) = true := by simp
      have j2 : (p2.g != p2.g) = false := by simp
      have j3 : (p2.b == p2.b) = true := by simp
      have j4 : (p2.b != p2.b) = false := by simp
      have j5 : ((p2.n : Int) == (p2.n : Int)) = true := by simp
      have j6 : ((p2.n : Int) != (p2.n : Int)) = false := by simp
      have hmx := HP2.out.max
      unfold maxLen at hmx
      have hcp := HP2.out.cap
      have hcq := HQ2.out.cap
      clear px qx
      go_wp2_with fail
      go_quiet (fail)
      go_wp2_with fail
      clear y0 y1 y2 z0 z1 z2
      go_loopw [6] (fun i wr => ∃ m : Nat, i = .int .i64 m ∧ m ≤ p2.n ∧ Hid (Below w1.heap.size w1 wr)) (fun i _ => p2.n - (intOf i).toNat)
      case atStart => exact ⟨0, rfl, Nat.zero_le _, Lib.hid (Wd.below_drewN hI.out _)⟩
      case round =>
        obtain ⟨m, rfl, hm, hM⟩ := hrel
        have px := PB.out.below PB.out.lt hM.out
        have qx := QB.out.below QB.out.lt hM.out
        obtain ⟨y2, z2⟩ := And.intro (px.cell 8) (qx.cell 8)
        clear px qx
        by_cases hlt : m < p2.n
        · have hml : m < p2.l.length := by rw [← HP2.out.len]; exact hlt
          obtain ⟨x, hx⟩ : ∃ x, x = p2.l.getD m default := ⟨_, rfl⟩
          obtain ⟨pb1, pf1, hA1, -, u0, u1, u2, u3, u4, u5, u6, -⟩ := (HP2.out.below hM.out).cells hml hx
          obtain ⟨pb2, pf2, hA2, -, v0, v1, v2, v3, v4, v5, v6, -⟩ := (HQ2.out.below hM.out).cells hml hx
          rw [hA1] at y2
          rw [hA2] at z2
          have heq := fun w => eqE x.kind x.part x.id x.st x.en x.size x.sum x.kind x.part x.id x.st x.en x.size x.sum w
          have e1 : decide (x.kind = x.kind ∧ x.part = x.part ∧ x.id = x.id ∧ x.st = x.st ∧ x.en = x.en ∧ x.size = x.size ∧ x.sum = x.sum) = true := by simp
          rw [e1] at heq
          have hmI : (m : Int) < (p2.n : Int) := by omega
          clear hml hx hA1 hA2 e1
          go_wp2_with fail
          go_quiet (fail)
          go_wp2_with fail
          go_roundw
          case rel => exact ⟨m + 1, by go_num, by omega, Lib.hid (Wd.below_drewN hM.out _)⟩
          case measure => simp [intOf]; omega
        · have hmI : ¬ (m : Int) < (p2.n : Int) := by omega
          go_wp2_with fail
          go_roundw
          case rel => exact ⟨3, by go_num, by omega, hM⟩
          case measure => simp [intOf]
    | 3, _ =>
      have px := PB.out.below PB.out.lt hI.out
      have qx := QB.out.below QB.out.lt hI.out
      obtain ⟨y0, y1, y2, z0, z1, z2⟩ := And.intro (px.cell 9) (And.intro (px.cell 10) (And.intro (px.cell 11) (And.intro (qx.cell 9) (And.intro (qx.cell 10) (qx.cell 11)))))
      have j1 : (p3.g == p3.g) = true := by simp
      have j2 : (p3.g != p3.g) = false := by simp
      have j3 : (p3.b == p3.b) = true := by simp
      have j4 : (p3.b != p3.b) = false := by simp
      have j5 : ((p3.n : Int) == (p3.n : Int)) = true := by simp
      have j6 : ((p3.n : Int) != (p3.n : Int)) = false := by simp
      have hmx := HP3.out.max
      unfold maxLen at hmx
      have hcp := HP3.out.cap
      have hcq := HQ3.out.cap
      clear px qx
      go_wp2_with fail
      go_quiet (fail)
      go_wp2_with fail
      clear y0 y1 y2 z0 z1 z2
      go_loopw [6] (fun i wr => ∃ m : Nat, i = .int .i64 m ∧ m ≤ p3.n ∧ Hid (Below w1.heap.size w1 wr)) (fun i _ => p3.n - (intOf i).toNat)
      case atStart => exact ⟨0, rfl, Nat.zero_le _, Lib.hid (Wd.below_drewN hI.out _)⟩
      case round =>
        obtain ⟨m, rfl, hm, hM⟩ := hrel
        have px := PB.out.below PB.out.lt hM.out
        have qx := QB.out.below QB.out.lt hM.out
        obtain ⟨y2, z2⟩ := And.intro (px.cell 11) (qx.cell 11)
        clear px qx
        by_cases hlt : m < p3.n
        · have hml : m < p3.l.length := by rw [← HP3.out.len]; exact hlt
          obtain ⟨x, hx⟩ : ∃ x, x = p3.l.getD m default := ⟨_, rfl⟩
          obtain ⟨pb1, pf1, hA1, -, u0, u1, u2, u3, u4, u5, u6, -⟩ := (HP3.out.below hM.out).cells hml hx
          obtain ⟨pb2, pf2, hA2, -, v0, v1, v2, v3, v4, v5, v6, -⟩ := (HQ3.out.below hM.out).cells hml hx
          rw [hA1] at y2
          rw [hA2] at z2
          have heq := fun w => eqE x.kind x.part x.id x.st x.en x.size x.sum x.kind x.part x.id x.st x.en x.size x.sum w
          have e1 : decide (x.kind = x.kind ∧ x.part = x.part ∧ x.id = x.id ∧ x.st = x.st ∧ x.en = x.en ∧ x.size = x.size ∧ x.sum = x.sum) = true := by simp
          rw [e1] at heq
          have hmI : (m : Int) < (p3.n : Int) := by omega
          clear hml hx hA1 hA2 e1
          go_wp2_with fail
          go_quiet (fail)
          go_wp2_with fail
          go_roundw
          case rel => exact ⟨m + 1, by go_num, by omega, Lib.hid (Wd.below_drewN hM.out _)⟩
          case measure => simp [intOf]; omega
        · have hmI : ¬ (m : Int) < (p3.n : Int) := by omega
          go_wp2_with fail
          go_roundw
          case rel => exact ⟨4, by go_num, by omega, hM⟩
          case measure => simp [intOf]
    | 4, _ =>
      go_wp2_with fail
      go_ret
      exact ⟨rfl, B1.out.trans (hI.out.mono B1.out.size)⟩
/-- Same of two that tell the same. -/
theorem same_pt (p0 p1 p2 p3 q0 q1 q2 q3 : Pv) (w : World) (e0 : q0.pt = p0.pt) (e1 : q1.pt = p1.pt) (e2 : q2.pt = p2.pt) (e3 : q3.pt = p3.pt) (s0 : Es w p0.A p0.n p0.c p0.l) (s1 : Es w p1.A p1.n p1.c p1.l) (s2 : Es w p2.A p2.n p2.c p2.l) (s3 : Es w p3.A p3.n p3.c p3.l)
    (t0 : Es w q0.A q0.n q0.c q0.l) (t1 : Es w q1.A q1.n q1.c q1.l) (t2 : Es w q2.A q2.n q2.c q2.l) (t3 : Es w q3.A q3.n q3.c q3.l) :
    Calls Try.prog 12 #[.agg #[.int .i64 p0.g, .int .i64 p0.b, .slice p0.A p0.n p0.c, .int .i64 p1.g, .int .i64 p1.b, .slice p1.A p1.n p1.c, .int .i64 p2.g, .int .i64 p2.b, .slice p2.A p2.n p2.c, .int .i64 p3.g, .int .i64 p3.b, .slice p3.A p3.n p3.c], .agg #[.int .i64 q0.g, .int .i64 q0.b, .slice q0.A q0.n q0.c, .int .i64 q1.g, .int .i64 q1.b, .slice q1.A q1.n q1.c, .int .i64 q2.g, .int .i64 q2.b, .slice q2.A q2.n q2.c, .int .i64 q3.g, .int .i64 q3.b, .slice q3.A q3.n q3.c]] w fun e w' => e = .returned (.bool true) ∧ Below w.heap.size w w' := by
  have key : ∀ p q : Pv, q.pt = p.pt → Es w p.A p.n p.c p.l → Es w q.A q.n q.c q.l → q.g = p.g ∧ q.b = p.b ∧ q.n = p.n ∧ q.l = p.l := fun p q e s t => by
    simp only [Pv.pt, Pt.mk.injEq] at e
    exact ⟨e.1, e.2.1, by rw [t.len, s.len, e.2.2], e.2.2⟩
  obtain ⟨a0, b0, n0, l0⟩ := key _ _ e0 s0 t0
  obtain ⟨a1, b1, n1, l1⟩ := key _ _ e1 s1 t1
  obtain ⟨a2, b2, n2, l2⟩ := key _ _ e2 s2 t2
  obtain ⟨a3, b3, n3, l3⟩ := key _ _ e3 s3 t3
  rw [a0, b0, n0, a1, b1, n1, a2, b2, n2, a3, b3, n3]
  rw [n0, l0] at t0
  rw [n1, l1] at t1
  rw [n2, l2] at t2
  rw [n3, l3] at t3
  exact same_yes p0 p1 p2 p3 q0.A q1.A q2.A q3.A q0.c q1.c q2.c q3.c w s0 t0 s1 t1 s2 t2 s3 t3
end Jr
end Go.Proofs.Ytljgalleiemaaaa
namespace Go.Proofs.Ytljgalleiemaaaa
set_option maxRecDepth 20000
open Go.RowKit Go.ChangeShapes Go.WideShapes
namespace Wd
theorem open_sl {H : Type} {enc : TypeId × Value → H} {P : Program} {W : World} {r : Reach} {base0 base : Nat} {spare : Nat → Bool} {held : Bool} {t e : TypeId} {k : IntKind} {v : Value} {d : DataW H} {ps : List MemPlace}
    (ht : P.underlying t = some (.slice e)) (he : P.underlying e = some (.int k)) (hc : P.cellsOf e = 1) (hok : Value.okWide P W r base0 t v) (h : DataW.Trod enc P W base spare held t v d ps) :
    ∃ A n c xs, v = .slice A n c ∧ Sl W k A n c xs ∧ Fits k xs := by
  obtain ⟨A, n, c, rfl⟩ := okWide_slice ht hok
  obtain ⟨fuel, hf⟩ := h
  rcases open_ints ht he hc hf with ⟨hcs, _⟩ | ⟨x, l, cc, zs, hcs, _, hl, hm, hz, _, hcell, hwz⟩
  · simp [Value.cells] at hcs
    obtain ⟨rfl, rfl, rfl⟩ := hcs
    exact ⟨none, 0, 0, [], rfl, Sl.none_ _ _, fun x hx => by simp at hx⟩
  · simp [Value.cells] at hcs
    obtain ⟨rfl, rfl, rfl⟩ := hcs
    have hlz : n ≤ zs.length := by rw [hz]; split <;> omega
    refine ⟨_, _, _, zs.take n, rfl, ⟨by simp [hlz], hl, hm, by simp, ?_⟩, fun y hy => hwz y (List.mem_of_mem_take hy)⟩
    refine Rd.take (fun j hj => ?_) n
    obtain ⟨b, o, rfl, h1⟩ := ints_at hcell (by omega)
    have h2 := h1 j hj
    exact ⟨b, o, rfl, World.block_lt_of_cell? W ⟨b, o + j, none⟩ h2, h2⟩
end Wd
end Go.Proofs.Ytljgalleiemaaaa
