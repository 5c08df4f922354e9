/- What the functions of package num that read do: getVarint, GetLen. They leave memory as it is. -/
import Derived.Test.YtdmgjeipkpbojaaDoorProg
import Derived.Test.YtdmgjeipkpbojaaDoorWords
import Derived.Test.YtdmgjeipkpbojaaDoorNumMath
import Derived.Test.YtdmgjeipkpbojaaDoorNumBits
import Derived.WalkKit
import Derived.WalkSpells
import Derived.Lib.Hide
namespace Go.Proofs.YtdmgjeipkpbojaaDoor
set_option maxRecDepth 20000
open Go.RowKit
namespace Nc

/-- Three numbers as Go's three results. -/
def three (k : IntKind) (p : Int × Int × Int) : Value := .tuple #[.int k p.1, .int .i64 p.2.1, .int .i64 p.2.2]

theorem three_eq {k : IntKind} {a b c : Int} {p : Int × Int × Int} (h : (a, b, c) = p) : Ending.returned (.tuple #[.int k a, .int .i64 b, .int .i64 c]) = .returned (three k p) := by subst h; rfl

set_option maxHeartbeats 400000 in
theorem getVarint_any (A : Option Addr) (n c : Nat) (bs : List Int) (w : World) (hb : Wd.Sl w .u8 A n c bs) (hB : Nm.Byt bs) :
    Calls Tryd.prog 77 #[.slice A n c] w fun e w' => e = .returned (three .u64 (Nm.gv bs)) ∧ w = w' := by
  obtain ⟨rfl, hc, hx, hA, hr⟩ := hb
  unfold maxLen at hx
  rcases Nat.eq_zero_or_pos bs.length with h0 | h0
  · obtain rfl : bs = [] := List.eq_nil_of_length_eq_zero h0
    go_enter Tryd.func77, Tryd.ntmps77
    go_wp2
    refine wp_loop_rounds 1 ?_
    rw [rounds_succ]
    go_wp2
    go_ret3
    exact ⟨rfl, rfl⟩
  · obtain ⟨b, o, rfl, hlt, hcell⟩ := hr.some_ h0
    clear hr hA
    go_enter Tryd.func77, Tryd.ntmps77
    go_wp2
    go_loop [5, 10] (fun a i => ∃ (k : Nat) (acc : Int), i = .int .i64 k ∧ a = .int .u64 acc ∧ k ≤ bs.length ∧ k ≤ 9 ∧ 0 ≤ acc ∧ acc < 128 ^ k ∧ Nm.gvF k acc (bs.drop k) = Nm.gv bs) (fun _ i => bs.length - (intOf i).toNat)
    case atStart => exact ⟨0, 0, rfl, rfl, Nat.zero_le _, Nat.zero_le _, Int.le_refl _, by decide, rfl⟩
    case round =>
      obtain ⟨k, acc, rfl, rfl, hk, hk9, ha0, ha1, hg⟩ := hrel
      have Hg := Lib.hid hg
      clear hg
      by_cases hlt : k < bs.length
      · obtain ⟨x, hx'⟩ : ∃ x, x = bs.getD k 0 := ⟨_, rfl⟩
        have hd : bs.drop k = x :: bs.drop (k + 1) := by
          rw [hx', List.drop_eq_getElem_cons hlt]; simp [List.getD, hlt]
        have hcx := hcell k hlt
        rw [← hx'] at hcx
        have hxb : 0 ≤ x ∧ x ≤ 255 := hB x (by rw [hx']; simp [List.getD, hlt])
        obtain ⟨hx0, hx1⟩ := hxb
        have Hd := Lib.hid hd
        clear hd hx' hcell
        rcases Nat.lt_or_ge k 9 with q1 | q1; rotate_left
        · by_cases q2 : 1 < x
          · go_wp2_with fail
            go_ret3
            refine ⟨three_eq (a := 0) (b := 0) (c := 7) ?_, rfl⟩
            rw [← Hg.out, Hd.out, Nm.gvF, if_pos ⟨by omega, q2⟩]
          · rcases (show x ≤ 0 ∨ 0 < x by omega) with q3 | q3
            · go_wp2_with fail
              go_ret3
              refine ⟨three_eq (a := 0) (b := 0) (c := 7) ?_, rfl⟩
              rw [← Hg.out, Hd.out, Nm.gvF, if_neg (by omega), if_neg (by omega), if_pos (by omega)]
            · go_wp2_with fail
              go_ret3
              refine ⟨three_eq (a := bits BinOp.or IntKind.u64 acc (x % 128 * 9223372036854775808)) (b := 10) (c := 0) ?_, rfl⟩
              rw [← Hg.out, Hd.out, Nm.gvF, if_neg (by omega), if_neg (by omega), if_neg (by omega)]
              obtain rfl : x = 1 := by omega
              obtain rfl : k = 9 := by omega
              have := Nm.or_last acc ha0 ha1
              simp only [Prod.mk.injEq, and_true]
              exact ⟨this, rfl⟩
        · by_cases q2 : 128 ≤ x
          · go_wp2_with fail
            have hs := Nm.or_step k acc x q1 ha0 ha1
            go_round
            case rel =>
              rw [hs]
              refine ⟨k + 1, _, by go_num, rfl, by omega, by omega, Nm.or_step_lo k acc x ha0, Nm.or_step_lt k acc x ha1, ?_⟩
              rw [← Hg.out, Hd.out, Nm.gvF, if_neg (by omega), if_pos q2]
            case measure => simp [intOf]; omega
          · rcases (show x ≤ 0 ∨ 0 < x by omega) with q3 | q3
            · rcases (show k ≤ 0 ∨ 0 < k by omega) with q4 | q4
              · go_wp2_with fail
                go_ret3
                refine ⟨three_eq (a := bits BinOp.or IntKind.u64 acc (IntKind.u64.wrap 0)) (b := (k : Int) + 1) (c := 0) ?_, rfl⟩
                have hs := Nm.or_step k acc 0 q1 ha0 ha1
                rw [← Hg.out, Hd.out, Nm.gvF, if_neg (by omega), if_neg (by omega), if_neg (by omega)]
                obtain rfl : x = 0 := by omega
                simpa using hs
              · go_wp2_with fail
                go_ret3
                refine ⟨three_eq (a := 0) (b := 0) (c := 7) ?_, rfl⟩
                rw [← Hg.out, Hd.out, Nm.gvF, if_neg (by omega), if_neg (by omega), if_pos (by omega)]
            · go_wp2_with fail
              go_ret3
              refine ⟨three_eq (a := bits BinOp.or IntKind.u64 acc (IntKind.u64.wrap (x % 128 * 2 ^ (7 * k)))) (b := (k : Int) + 1) (c := 0) ?_, rfl⟩
              have hs := Nm.or_step k acc x q1 ha0 ha1
              rw [← Hg.out, Hd.out, Nm.gvF, if_neg (by omega), if_neg (by omega), if_neg (by omega), hs]
              rw [Int.emod_eq_of_lt hx0 (by omega)]
      · go_wp2_with fail
        go_ret3
        refine ⟨three_eq (a := 0) (b := 0) (c := 6) ?_, rfl⟩
        rw [← Hg.out, List.drop_of_length_le (by omega)]
        rfl

theorem getLen_any (A : Option Addr) (n c : Nat) (bs : List Int) (w : World) (hb : Wd.Sl w .u8 A n c bs) (hB : Nm.Byt bs) :
    Calls Tryd.prog 76 #[.slice A n c] w fun e w' => e = .returned (three .i64 (Nm.getL bs)) ∧ w = w' := by
  by_cases h : (Nm.gv bs).2.2 = 0
  · obtain ⟨k, u, hk, k1, k2, k3, u0, u1, _⟩ := Nm.gv_only bs hB h
    have hc := (getVarint_any A n c bs w hb hB)
    by_cases hu : 9223372036854775807 < u
    · have hr : Nm.getL bs = (0, 0, 7) := by unfold Nm.getL; rw [hk]; exact if_pos hu
      rw [hk] at hc
      have Hr := Lib.hid hr
      have Hc := Lib.hid hc
      clear hk hr hc h
      go_enter Tryd.func76, Tryd.ntmps76
      go_wp2_with fail
      refine Hc.out.mono ?_
      rintro e w' ⟨rfl, rfl⟩
      unfold three
      go_wp2_with fail
      go_ret3
      rw [Hr.out]
      exact ⟨rfl, rfl⟩
    · have hr : Nm.getL bs = (u, (k : Int), 0) := by unfold Nm.getL; rw [hk]; exact if_neg hu
      rw [hk] at hc
      have Hr := Lib.hid hr
      have Hc := Lib.hid hc
      clear hk hr hc h
      go_enter Tryd.func76, Tryd.ntmps76
      go_wp2_with fail
      refine Hc.out.mono ?_
      rintro e w' ⟨rfl, rfl⟩
      unfold three
      go_wp2_with fail
      go_ret3
      rw [Hr.out]
      exact ⟨rfl, rfl⟩
  · rcases Nm.gv_err bs with q | q | q
    · exact absurd q h
    all_goals
      have hr : Nm.getL bs = Nm.gv bs := by unfold Nm.getL; rw [q]; rfl
      have hc := (getVarint_any A n c bs w hb hB)
      rw [q] at hc hr
      have Hc := Lib.hid hc
      have Hr := Lib.hid hr
      clear hc hr q h
      go_enter Tryd.func76, Tryd.ntmps76
      go_wp2_with fail
      refine Hc.out.mono ?_
      rintro e w' ⟨rfl, rfl⟩
      unfold three
      go_wp2_with fail
      go_ret3
      rw [Hr.out]
      exact ⟨rfl, rfl⟩
end Nc
end Go.Proofs.YtdmgjeipkpbojaaDoor
