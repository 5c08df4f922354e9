/- The walk of the statement NumOnly of layer 1. -/
import Derived.Test.YthbliihjfgmepaaNumLawB
import Derived.Deep.RegionWith
import Derived.Deep.DeepCutAuto
namespace Go.Proofs.Ythbliihjfgmepaa
open Go.RowKit
namespace Lw
open Nc

set_option maxRecDepth 100000 in
set_option maxHeartbeats 2000000 in
theorem numOnly_ok (A : Option Addr) (m c : Nat) (bs : List Int) (w : World) (hS : Wd.Sl w .u8 A m c bs) (hF : Nm.Byt bs) (hl : m ≤ 600) (h : (Nm.gv bs).2.2 = 0) :
    Calls Try.prog 5 #[.slice A m c] w fun e w' => e = .returned (.bool true) ∧ Below w.heap.size w w' := by
  obtain ⟨k, u, hk, k1, k2, k3, u0, u1, ht, hj⟩ := Nm.gv_only bs hF h
  have hcap := hS.cap
  have hmax := hS.max
  unfold maxLen at hmax
  rw [← hS.len] at k2
  have hr : Nm.getI bs = (Nm.unz u, (k : Int), 0) := by unfold Nm.getI; rw [hk]; rfl
  have hu := Nm.unz_bd u u0 u1
  obtain ⟨n1, n2⟩ := hu
  have hz := Nm.zz_unz u u0
  have cg := fun w h => get_any A m c bs w h hF
  rw [hr] at cg
  have cp := fun w => put_any none 0 0 [] (Nm.unz u) w (Wd.Sl.none_ _ _) (by omega) n1 n2
  rw [hz, ← ht, List.nil_append] at cp
  have cj : ∀ (j : Nat) w', j < k → Wd.Sl w' .u8 A m c bs → Calls Try.prog 16 #[.slice A j c] w' fun e w'' => e = .returned (three .i64 (0, 0, 6)) ∧ w' = w'' := by
    intro j w' hjk hS'
    have := get_any A j c (bs.take j) w' (hS'.head j (by omega)) (fun x hx => hF x (List.mem_of_mem_take hx))
    have e : Nm.getI (bs.take j) = (0, 0, 6) := by unfold Nm.getI; rw [hj j hjk]; rfl
    rw [e] at this
    exact this
  have Cg := Lib.hid cg
  have Cp := Lib.hid cp
  have Cj := Lib.hid cj
  have HT := Lib.hid ht
  have HK := Lib.hid hk
  have Hz := Lib.hid hz
  clear cg cp cj ht hk hr hz hj h
  go_enter Try.func5, Try.ntmps5
  go_wp2_with fail
  refine (awake_any w).mono ?_
  rintro e w1 ⟨rfl, hB⟩
  have hS1 := hS.below hB
  go_wp2_with fail
  refine (Cg.out w1 hS1).mono ?_
  rintro e w2 ⟨rfl, rfl⟩
  unfold three
  have kk1 : (1 : Int) ≤ (k : Int) := by omega
  have kk2 : (k : Int) ≤ (m : Int) := by omega
  have hkm : k ≤ m := k2
  go_upto_region 9 with fail
  go_cut [7] (fun s wx => s = .bool true ∧ Wd.Sl wx .u8 A m c bs ∧ Below w.heap.size w wx)
  case first =>
    go_region_with (first | (go_at_call 10; refine (Cp.out _).mono ?_; rintro e w2 ⟨A2, m2, q2, rfl, hS2, hB2⟩; have hB2' : Below w1.heap.size w1 w2 := Wd.of_drew hB2; have hS12 := hS1.below hB2'; have hW2 : Below w.heap.size w w2 := hB.trans (hB2'.mono hB.size)) | (go_at_call 12; refine (same_yes A2 A m2 k q2 c (bs.take k) (bs.take k) w2 hS2 (hS12.head k hkm) rfl).mono ?_; rintro e w3 ⟨rfl, hB3⟩))
    all_goals (go_wp2_with fail; go_meet; exact ⟨rfl, hS12.below hB3, hW2.trans (hB3.mono hW2.size)⟩)
  case rest =>
    obtain ⟨rfl, hS3, hW3⟩ := hcut
    clear hS hS1 hB Cp
    obtain ⟨w3, rfl⟩ : ∃ w3, w3 = wc := ⟨_, rfl⟩
    go_wp2_with fail
    go_loop [8] (fun i => ∃ j : Nat, i = .int .i64 j ∧ j ≤ k) (fun i => k - (intOf i).toNat)
    case atStart => exact ⟨0, rfl, Nat.zero_le _⟩
    case round =>
      obtain ⟨j, rfl, hj⟩ := hrel
      by_cases hlt : j < k
      · have hjm : j ≤ c := by omega
        go_wp2_with fail
        refine (Cj.out j w3 hlt hS3).mono ?_
        rintro e w4 ⟨rfl, rfl⟩
        unfold three
        go_wp2_with fail
        go_round
        case rel => exact ⟨j + 1, by go_num, by omega⟩
        case measure => simp [intOf]; omega
      · clear Cj
        have cl := getLen_any A m c bs w3 hS3 hF
        by_cases hu : 9223372036854775807 < u
        · have hr : Nm.getL bs = (0, 0, 7) := by unfold Nm.getL; rw [HK.out]; exact if_pos hu
          rw [hr] at cl
          have Cl := Lib.hid cl
          clear cl hr
          rcases (show Nm.unz u < 0 ∨ (0 ≤ Nm.unz u ∧ 4611686018427387903 < Nm.unz u) by unfold Nm.unz; split <;> omega) with q | ⟨q1, q2⟩
          · go_wp2_with fail
            refine Cl.out.mono ?_
            rintro e w4 ⟨rfl, rfl⟩
            unfold three
            go_wp2_with fail
            go_ret
            exact ⟨rfl, hW3⟩
          · go_wp2_with fail
            refine Cl.out.mono ?_
            rintro e w4 ⟨rfl, rfl⟩
            unfold three
            go_wp2_with fail
            go_ret
            exact ⟨rfl, hW3⟩
        · have hr : Nm.getL bs = (u, (k : Int), 0) := by unfold Nm.getL; rw [HK.out]; exact if_neg hu
          rw [hr] at cl
          have Cl := Lib.hid cl
          have cp := fun w => putLen_any none 0 0 [] u w (Wd.Sl.none_ _ _) (by omega) (by omega) (by omega)
          rw [if_neg (show ¬ u < 0 by omega), ← HT.out, List.nil_append] at cp
          have Cp := Lib.hid cp
          clear cl hr cp
          go_wp2_with fail
          refine Cl.out.mono ?_
          rintro e w4 ⟨rfl, rfl⟩
          unfold three
          go_upto_region 19 with fail
          go_cut [15] (fun s wx => s = .bool true ∧ Below w.heap.size w wx)
          case first =>
            go_region_with (first | (go_at_call 11; refine (Cp.out _).mono ?_; rintro e w5 ⟨A5, m5, q5, rfl, hS5, hB5⟩; have hB5' : Below w3.heap.size w3 w5 := Wd.of_drew hB5; have hS35 := hS3.below hB5'; have hW5 : Below w.heap.size w w5 := hW3.trans (hB5'.mono hW3.size)) | (go_at_call 12; refine (same_yes A5 A m5 k q5 c (bs.take k) (bs.take k) w5 hS5 (hS35.head k hkm) rfl).mono ?_; rintro e w6 ⟨rfl, hB6⟩))
            all_goals (go_wp2_with fail; go_meet; exact ⟨rfl, hW5.trans (hB6.mono hW5.size)⟩)
          case rest =>
            obtain ⟨rfl, hW6⟩ := hcut
            go_wp2_with fail
            go_ret
            exact ⟨rfl, hW6⟩

set_option maxRecDepth 100000 in
set_option maxHeartbeats 2000000 in
theorem numOnly_walk (A : Option Addr) (m c : Nat) (bs : List Int) (w : World) (hS : Wd.Sl w .u8 A m c bs) (hF : Wd.Fits .u8 bs) :
    Calls Try.prog 5 #[.slice A m c] w fun e w' => e = .returned (.bool true) ∧ Below w.heap.size w w' := by
  have hcap := hS.cap
  have hmax := hS.max
  unfold maxLen at hmax
  by_cases hl : 600 < m
  · go_enter Try.func5, Try.ntmps5
    go_wp2_with fail
    refine (awake_any w).mono ?_
    rintro e w1 ⟨rfl, hB⟩
    go_wp2_with fail
    go_ret
    exact ⟨rfl, hB⟩
  · by_cases h : (Nm.gv bs).2.2 = 0
    · exact numOnly_ok A m c bs w hS (byt_of hF) (by omega) h
    · rcases Nm.gv_err bs with q | q | q
      · exact absurd q h
      all_goals
        have hr : Nm.getI bs = Nm.gv bs := by unfold Nm.getI; rw [q]; rfl
        have hc := fun w h => get_any A m c bs w h (byt_of hF)
        rw [q] at hr
        rw [hr] at hc
        have Hc := Lib.hid hc
        clear hc hr q h
        go_enter Try.func5, Try.ntmps5
        go_wp2_with fail
        refine (awake_any w).mono ?_
        rintro e w1 ⟨rfl, hB⟩
        have hS1 := hS.below hB
        go_wp2_with fail
        refine (Hc.out w1 hS1).mono ?_
        rintro e w2 ⟨rfl, rfl⟩
        unfold three
        go_wp2_with fail
        go_ret
        exact ⟨rfl, hB⟩
end Lw
end Go.Proofs.Ythbliihjfgmepaa
