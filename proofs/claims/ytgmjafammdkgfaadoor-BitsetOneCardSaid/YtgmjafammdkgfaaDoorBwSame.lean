/- Package bitset: Same; slices.Equal of words. -/
import Derived.Test.YtgmjafammdkgfaaDoorBwBase
namespace Go.Proofs.YtgmjafammdkgfaaDoor
set_option maxRecDepth 20000
open Go.RowKit
namespace Bw
open Bs Bx Bi
theorem take_ext {L M : List Nat} {q : Nat} (h1 : q < L.length) (h2 : q < M.length) (h : L.take q = M.take q) (e : L.getD q 0 = M.getD q 0) : L.take (q + 1) = M.take (q + 1) := by
  rw [List.take_succ_eq_append_getElem h1, List.take_succ_eq_append_getElem h2, h]
  rw [List.getD_eq_getElem?_getD, List.getD_eq_getElem?_getD, List.getElem?_eq_getElem h1, List.getElem?_eq_getElem h2] at e
  simp only [Option.getD_some] at e
  rw [e]
set_option maxHeartbeats 4000000 in
theorem equal_any (A B : Option Addr) (n c m d : Nat) (L M : List Nat) (r : Bool) (w : World) (hS : Wd.Sl w .u64 A n c (nat L)) (hT : Wd.Sl w .u64 B m d (nat M)) (hL : Wo L) (hM : Wo M) (hr : r = decide (L = M)) :
    Calls Tryd.prog 36 #[.slice A n c, .slice B m d] w fun e w' => e = .returned (.bool r) ∧ Below w.heap.size w w' := by
  have hn : n = L.length := by rw [hS.len, nat_len]
  have hm : m = M.length := by rw [hT.len, nat_len]
  have hn1 : n ≤ 1024 := by rw [hn]; exact hL.1
  have hm1 : m ≤ 1024 := by rw [hm]; exact hM.1
  have hcap := hS.cap
  have hmx := hS.max
  have hcap2 := hT.cap
  have hmx2 := hT.max
  unfold maxLen at hmx hmx2
  have HS := Lib.hid hS
  have HT := Lib.hid hT
  have Hn := Lib.hid hn
  have Hm := Lib.hid hm
  have Hr := Lib.hid hr
  clear hS hT hn hm hL hM hr
  by_cases hnm : n = m
  case neg =>
    have e := Lib.hid (show r = false by rw [Hr.out, decide_eq_false]; rintro rfl; exact hnm (Hn.out.trans Hm.out.symm))
    have hne : ((n : Int) == (m : Int)) = false := by simpa using fun h => hnm (by omega)
    go_enter Tryd.func36, Tryd.ntmps36
    go_wp2_with fail
    go_ret
    exact ⟨by rw [e.out]; rfl, Below.refl _ _⟩
  subst hnm
  go_enter Tryd.func36, Tryd.ntmps36
  go_wp2_with fail
  go_loopw [5, 13] (fun u j wr => ∃ q : Nat, j = .int .i64 q ∧ q ≤ n ∧ Hid (L.take q = M.take q) ∧ Below w.heap.size w wr) (fun _ j _ => n - (intOf j).toNat)
  case atStart => exact ⟨0, rfl, Nat.zero_le _, Lib.hid rfl, Below.refl _ _⟩
  case round =>
    obtain ⟨q, rfl, hk, he, hB⟩ := hrel
    by_cases hlt : q < n
    · have hkI : (q : Int) < n := by omega
      have hq0 : (0 : Int) ≤ (q : Int) := by omega
      have HqL := Lib.hid (show q < L.length by rw [← Hn.out]; exact hlt)
      have HqM := Lib.hid (show q < M.length by rw [← Hm.out]; exact hlt)
      obtain ⟨b1, o1, hA1, hb1, hc1⟩ := (HS.out.below hB).rd q (by rw [nat_len]; exact HqL.out)
      obtain ⟨b2, o2, hA2, hb2, hc2⟩ := (HT.out.below hB).rd q (by rw [nat_len]; exact HqM.out)
      subst hA1 hA2
      rw [nat_getD] at hc1 hc2
      obtain ⟨x, hx⟩ : ∃ x, x = L.getD q 0 := ⟨_, rfl⟩
      obtain ⟨y, hy⟩ : ∃ y, y = M.getD q 0 := ⟨_, rfl⟩
      rw [← hx] at hc1
      rw [← hy] at hc2
      have Hx := Lib.hid hx
      have Hy := Lib.hid hy
      have HB := Lib.hid hB
      clear hx hy hB
      by_cases hxy : x = y
      · subst hxy
        have hn := Lib.hid (take_ext HqL.out HqM.out he.out (Hx.out.symm.trans Hy.out))
        go_wp2_with fail
        go_quiet (fail)
        go_wp2_with fail
        go_roundw
        case rel => exact ⟨q + 1, by go_num, by omega, hn, Wd.below_drewN HB.out _⟩
        case measure => simp [intOf]; omega
      · have e := Lib.hid (show r = false by
          rw [Hr.out, decide_eq_false]
          intro h
          exact hxy (by rw [Hx.out, Hy.out, h]))
        have hne : ((x : Int) == (y : Int)) = false := by simpa using fun h => hxy (by omega)
        go_wp2_with fail
        go_quiet (fail)
        go_wp2_with fail
        go_ret
        exact ⟨by rw [e.out]; rfl, Wd.below_drewN HB.out _⟩
    · have hkI : ¬ (q : Int) < n := by omega
      have e := Lib.hid (show r = true by
        rw [Hr.out, decide_eq_true]
        have h := he.out
        rw [List.take_of_length_le (by rw [← Hn.out]; omega), List.take_of_length_le (by rw [← Hm.out]; omega)] at h
        exact h)
      go_wp2_with fail
      go_ret
      exact ⟨by rw [e.out]; rfl, hB⟩
set_option maxHeartbeats 4000000 in
theorem same_any (A : Option Addr) (n c : Nat) (X : List Int) (B : Option Addr) (m d : Nat) (Y : List Int) (w : World) (hX : St w A n c X) (hY : St w B m d Y) :
    Calls Tryd.prog 28 #[.agg #[.slice A n c], .agg #[.slice B m d]] w fun e w' => e = .returned (.bool (decide (X = Y))) ∧ Below w.heap.size w w' := by
  obtain ⟨L, hS, hL, tL, rfl⟩ := hX
  obtain ⟨M, hT, hM, tM, rfl⟩ := hY
  have hb0 := ((Below.refl w.heap.size w).alloc (Nat.le_refl _) (.cells #[.slice A n c] 27)).alloc (by simp) (.cells #[.slice B m d] 27)
  have x0 : Wd.Var ((w.alloc (.cells #[.slice A n c] 27)).alloc (.cells #[.slice B m d] 27)) w.heap.size 27 (.slice A n c) := (Wd.Var.new w _ _).alloc _
  have x1 : Wd.Var ((w.alloc (.cells #[.slice A n c] 27)).alloc (.cells #[.slice B m d] 27)) (w.heap.size + 1) 27 (.slice B m d) := by
    have := Wd.Var.new (w.alloc (.cells #[.slice A n c] 27)) 27 (.slice B m d)
    rwa [World.size_alloc] at this
  have c0 := x0.cell
  have c1 := x1.cell
  have C := Lib.hid (equal_any A B n c m d L M (decide (L = M)) _ (hS.below hb0) (hT.below hb0) hL hM rfl)
  have hr : decide (lstW L = lstW M) = decide (L = M) := decide_eq_decide.2 (same_lst hL hM tL tM)
  rw [hr]
  obtain ⟨r, hq⟩ : ∃ r, r = decide (L = M) := ⟨_, rfl⟩
  rw [← hq] at C ⊢
  clear hS hT hL hM tL tM x0 x1 hr hq
  go_enter Tryd.func28, Tryd.ntmps28
  go_wp2_with fail
  refine C.out.mono ?_
  rintro e w2 ⟨rfl, hB⟩
  have hb2 := hb0.trans (hB.mono (by simp; omega))
  go_wp2_with fail
  go_ret
  exact ⟨rfl, hb2⟩
end Bw
end Go.Proofs.YtgmjafammdkgfaaDoor
