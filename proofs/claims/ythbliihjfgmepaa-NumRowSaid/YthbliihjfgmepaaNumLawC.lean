/- The walk of the statement NumRow of layer 1. -/
import Derived.Test.YthbliihjfgmepaaNumLawB
namespace Go.Proofs.Ythbliihjfgmepaa
open Go.RowKit
namespace Lw
open Nc

/-- The digits of all numbers of a list, one behind the other. -/
def encs (l : List Int) : List Int := l.flatMap fun x => Nm.vd (Nm.zz x)
theorem encs_take (l : List Int) (k : Nat) (h : k < l.length) : encs (l.take (k + 1)) = encs (l.take k) ++ Nm.vd (Nm.zz (l.getD k 0)) := by
  unfold encs
  rw [List.take_succ_eq_append_getElem h, List.flatMap_append]
  simp [List.getD, h]
theorem encs_drop (l : List Int) (k : Nat) (h : k < l.length) : encs (l.drop k) = Nm.vd (Nm.zz (l.getD k 0)) ++ encs (l.drop (k + 1)) := by
  unfold encs
  rw [List.drop_eq_getElem_cons h, List.flatMap_cons]
  simp [List.getD, h]
theorem encs_byt (l : List Int) (h : ∀ x ∈ l, -9223372036854775808 ≤ x ∧ x ≤ 9223372036854775807) : Nm.Byt (encs l) := fun y hy => by
  unfold encs at hy
  obtain ⟨x, hx, hy⟩ := List.mem_flatMap.1 hy
  exact Nm.vd_byt (Nm.zz x) (Nm.zz_lo x) (Nm.zz_hi x (h x hx).1 (h x hx).2) y hy
theorem int_of {xs : List Int} (h : Wd.Fits .i64 xs) : ∀ x ∈ xs, -9223372036854775808 ≤ x ∧ x ≤ 9223372036854775807 := fun x hx => by
  have := h x hx
  simp [Lit.wf, IntKind.min, IntKind.max, IntKind.signed, IntKind.bits] at this
  omega

set_option maxHeartbeats 1000000 in
theorem numRow_walk (A : Option Addr) (m c : Nat) (l : List Int) (w : World) (hS : Wd.Sl w .i64 A m c l) (hF : Wd.Fits .i64 l) :
    Calls Try.prog 6 #[.slice A m c] w fun e w' => e = .returned (.bool true) ∧ Below w.heap.size w w' := by
  have hcap := hS.cap
  have hmax := hS.max
  unfold maxLen at hmax
  by_cases hl : 60 < m
  · go_enter Try.func6, Try.ntmps6
    go_wp2_with fail
    refine (awake_any w).mono ?_
    rintro e w1 ⟨rfl, hB⟩
    go_wp2_with fail
    go_ret
    exact ⟨rfl, hB⟩
  · have hI := int_of hF
    have HI := Lib.hid hI
    have Hm := Lib.hid hS.len
    clear hI
    go_enter Try.func6, Try.ntmps6
    go_wp2_with fail
    refine (awake_any w).mono ?_
    rintro e w1 ⟨rfl, hB⟩
    have hS1 := hS.below hB
    go_wp2_with fail
    go_loopw [4, 5] (fun v i wr => ∃ (k n d : Nat) (D : Option Addr), i = .int .i64 k ∧ k ≤ m ∧ v = .slice D n d ∧ Wd.Sl wr .u8 D n d (encs (l.take k)) ∧ n ≤ 10 * k ∧ Below w1.heap.size w1 wr) (fun _ i _ => m - (intOf i).toNat)
    case atStart => exact ⟨0, 0, 0, none, rfl, Nat.zero_le _, rfl, Wd.Sl.none_ _ _, Nat.le_refl _, Below.refl _ _⟩
    case round =>
      obtain ⟨k, n, d, D, rfl, hk, rfl, hD, hn, hb⟩ := hrel
      by_cases hlt : k < m
      · have hkl : k < l.length := by rw [← Hm.out]; exact hlt
        have hSr := hS1.below hb
        obtain ⟨b, o, hA, _, hc⟩ := hSr.rd k hkl
        subst hA
        obtain ⟨x, hx⟩ : ∃ x, x = l.getD k 0 := ⟨_, rfl⟩
        have hxb := HI.out x (by rw [hx]; simp [List.getD, hkl])
        have he := encs_take l k hkl
        rw [← hx] at hc he
        have He := Lib.hid he
        clear hx he
        have hi : (k : Int) < (m : Int) := by omega
        go_wp2_with fail
        refine (put_any D n d _ x wr hD (by omega) hxb.1 hxb.2).mono ?_
        rintro e w2 ⟨A2, m2, k2, rfl, hS2, hB2⟩
        rw [← He.out] at hS2
        go_wp2_with fail
        go_roundw
        case rel =>
          refine ⟨k + 1, m2, k2, A2, by go_num, by omega, rfl, hS2, ?_, hb.trans (hB2.mono hb.size)⟩
          have h1 := hS2.len
          have h2 := hD.len
          have h3 := (Nm.vd_len (Nm.zz x)).2
          rw [He.out, List.length_append] at h1
          omega
        case measure => simp [intOf]; omega
      · have he : encs (l.take k) = encs (l.drop 0) := by rw [List.drop_zero, List.take_of_length_le (by rw [← Hm.out]; omega)]
        rw [he] at hD
        clear he
        have hSr := hS1.below hb
        have hW : Below w.heap.size w wr := hB.trans (hb.mono hB.size)
        obtain ⟨wq, rfl⟩ : ∃ wq, wq = wr := ⟨_, rfl⟩
        clear hS hS1 hB hb hn
        go_wp2_with fail
        go_loop [4, 6] (fun v i => ∃ (j n d : Nat) (D : Option Addr), i = .int .i64 j ∧ j ≤ m ∧ v = .slice D n d ∧ Wd.Sl wq .u8 D n d (encs (l.drop j))) (fun _ i => m - (intOf i).toNat)
        case atStart => exact ⟨0, n, d, D, rfl, Nat.zero_le _, rfl, hD⟩
        case round =>
          obtain ⟨j, n, d, D, rfl, hj, rfl, hD⟩ := hrel
          by_cases hlt2 : j < m
          · have hjl : j < l.length := by rw [← Hm.out]; exact hlt2
            obtain ⟨b, o, hA, _, hc⟩ := hSr.rd j hjl
            subst hA
            obtain ⟨x, hx⟩ : ∃ x, x = l.getD j 0 := ⟨_, rfl⟩
            have hxb := HI.out x (by rw [hx]; simp [List.getD, hjl])
            have he := encs_drop l j hjl
            rw [← hx] at hc he
            have hg := getI_vd x (encs (l.drop (j + 1))) hxb.1 hxb.2
            have hby := encs_byt (l.drop j) (fun y hy => HI.out y (List.mem_of_mem_drop hy))
            have hc1 := get_any D n d (encs (l.drop j)) wq hD hby
            rw [he, hg] at hc1
            have hcut := hD.cut (Nm.vd (Nm.zz x)).length
            rw [he, List.drop_left] at hcut
            have hle : (Nm.vd (Nm.zz x)).length ≤ n := by rw [hD.len, he, List.length_append]; omega
            have hpos := (Nm.vd_len (Nm.zz x)).1
            generalize (Nm.vd (Nm.zz x)).length = L at *
            have Hc1 := Lib.hid hc1
            have Hcut := Lib.hid (hcut hle)
            have hnd := hD.cap
            have hdm := hD.max
            unfold maxLen at hdm
            clear hx he hg hc1 hcut
            have hi : (j : Int) < (m : Int) := by omega
            go_wp2_with fail
            refine Hc1.out.mono ?_
            rintro e w2 ⟨rfl, rfl⟩
            unfold three
            go_wp2_with fail
            go_round
            case rel => exact ⟨j + 1, n - L, d - L, _, by go_num, by omega, rfl, Hcut.out⟩
            case measure => simp [intOf]; omega
          · go_wp2_with fail
            go_ret
            have hn := hD.len
            rw [List.drop_of_length_le (by rw [← Hm.out]; omega)] at hn
            exact ⟨Wd.yes (by rw [hn]; rfl), hW⟩
end Lw
end Go.Proofs.Ythbliihjfgmepaa
