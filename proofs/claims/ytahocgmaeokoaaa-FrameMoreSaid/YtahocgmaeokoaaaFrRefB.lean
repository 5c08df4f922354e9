/- What the reference function Lists of layer 4, and few of its statements, do. -/
import Derived.Test.YtahocgmaeokoaaaLists
import Derived.Test.YtahocgmaeokoaaaFrFrame
import Derived.Test.YtahocgmaeokoaaaRefSame
import Derived.Deep.RegionHeld3
import Derived.Deep.DeepCutAuto
namespace Go.Proofs.Ytahocgmaeokoaaa
open Go.RowKit
namespace Fc
open Nc

theorem takeL_next (l : List (List Int)) (k : Nat) (h : k < l.length) : l.take (k + 1) = l.take k ++ [l.getD k []] := by
  rw [List.take_succ_eq_append_getElem h]
  simp [List.getD, h]
theorem getL_of_eq {xs ys : List (List Int)} (h : xs = ys) (k : Nat) : xs.getD k [] = ys.getD k [] := by rw [h]

set_option maxRecDepth 100000 in
set_option maxHeartbeats 1000000 in
theorem lists_any (A B : Option Addr) (n m c d : Nat) (xs ys : List (List Int)) (w : World) (hA : Wd.Ss w A n c xs) (hB : Wd.Ss w B m d ys) :
    Calls Try.prog 16 #[.slice A n c, .slice B m d] w fun e w' => e = .returned (.bool (decide (xs = ys))) ∧ Below w.heap.size w w' := by
  have Hla := Lib.hid hA.len
  have Hlb := Lib.hid hB.len
  have hc1 := hA.cap
  have hd1 := hB.cap
  have hc2 := hA.max
  have hd2 := hB.max
  unfold maxLen at hc2 hd2
  have HA := Lib.hid hA
  have HB := Lib.hid hB
  obtain ⟨β, hβ⟩ : ∃ β, β = decide (xs = ys) := ⟨_, rfl⟩
  rw [← hβ]
  have Hβ := Lib.hid hβ
  clear hA hB hβ
  by_cases hl : n = m
  · subst hl
    have hne : ((n : Int) != (n : Int)) = false := by simp
    go_enter Try.func16, Try.ntmps16
    go_wp2_with fail
    go_loopw [5] (fun i wr => ∃ k : Nat, i = .int .i64 (k : Int) ∧ k ≤ n ∧ Hid (xs.take k = ys.take k) ∧ Below w.heap.size w wr) (fun i _ => n - (intOf i).toNat)
    case atStart => exact ⟨0, rfl, Nat.zero_le _, Lib.hid rfl, Below.refl _ _⟩
    case round =>
      obtain ⟨k, rfl, hk, hT, hb⟩ := hrel
      by_cases hlt : k < n
      · have hka : k < xs.length := by rw [← Hla.out]; exact hlt
        have hkb : k < ys.length := by rw [← Hlb.out]; exact hlt
        obtain ⟨b1, o1, A1, n1, c1, rfl, hlt1, cc1, hS1⟩ := (HA.out.below hb).at_ k hka
        obtain ⟨b2, o2, A2, n2, c2, rfl, hlt2, cc2, hS2⟩ := (HB.out.below hb).at_ k hkb
        have hx := takeL_next xs k hka
        have hy := takeL_next ys k hkb
        obtain ⟨γ, hγ⟩ : ∃ γ, γ = decide (xs.getD k [] = ys.getD k []) := ⟨_, rfl⟩
        have Cs := Lib.hid fun w' (h : Below wr.heap.size wr w') => (by
          have := same_any A1 A2 n1 n2 c1 c2 _ _ w' (hS1.below h) (hS2.below h)
          rw [← hγ] at this
          exact this : Calls Try.prog 11 #[.slice A1 n1 c1, .slice A2 n2 c2] w' fun e w'' => e = .returned (.bool γ) ∧ ∃ q, w'' = w'.drewN q)
        have Hx := Lib.hid hx
        have Hy := Lib.hid hy
        have Hγ := Lib.hid hγ
        have i1 : (k : Int) < (n : Int) := by omega
        have i0 : (0 : Int) ≤ (k : Int) := by omega
        obtain ⟨wo, rfl⟩ : ∃ wo : World, wo = wr := ⟨_, rfl⟩
        clear hx hy hγ hka hkb hS1 hS2
        go_upto_region 6 with fail
        go_cut [6] (fun s wx => s = .bool γ ∧ Below wo.heap.size wo wx)
        case first =>
          go_region_held3 (fun w' => w'.cell? ⟨b1, o1 + k, none⟩ = some (.slice A1 n1 c1) ∧ w'.cell? ⟨b2, o2 + k, none⟩ = some (.slice A2 n2 c2)) (first | exact ⟨cc1, cc2⟩ | go_keep) (first | (go_at_call 11; (with_reducible refine (Cs.out _ ((Below.refl _ _).drew)).mono ?_); rintro e w5 ⟨rfl, q, rfl⟩))
          all_goals (go_wp2_with fail; go_meet; exact ⟨rfl, Wd.below_drewN (Below.refl _ _) _⟩)
        case rest =>
          obtain ⟨rfl, hb'⟩ := hcut
          have hb2 : Below w.heap.size w _ := hb.trans (hb'.mono hb.size)
          cases γ with
          | true =>
            have he := of_decide_eq_true Hγ.out.symm
            have He := Lib.hid he
            clear he cc1 cc2 Cs hb
            go_wp2_with fail
            go_roundw
            case rel => exact ⟨k + 1, by go_num, by omega, Lib.hid (by rw [Hx.out, Hy.out, hT.out, He.out]), hb2⟩
            case measure => simp [intOf]; omega
          | false =>
            have he := of_decide_eq_false Hγ.out.symm
            have He := Lib.hid he
            clear he cc1 cc2 Cs hb
            go_wp2_with fail
            go_ret
            refine ⟨?_, hb2⟩
            rw [Hβ.out, decide_eq_false (fun e => He.out (getL_of_eq e k))]
            rfl
      · have hT' : xs = ys := by
          have := hT.out
          rwa [List.take_of_length_le (by rw [← Hla.out]; omega), List.take_of_length_le (by rw [← Hlb.out]; omega)] at this
        have H := Lib.hid hT'
        have hkI : ¬ (k : Int) < (n : Int) := by omega
        clear hT'
        go_wp2_with fail
        go_ret
        refine ⟨?_, hb⟩
        rw [Hβ.out, decide_eq_true H.out]
        rfl
  · have hne : ((n : Int) != (m : Int)) = true := by rw [bne_iff_ne]; omega
    have hx : xs ≠ ys := fun e => hl (by rw [Hla.out, Hlb.out, e])
    have H := Lib.hid hx
    clear hx
    go_enter Try.func16, Try.ntmps16
    go_wp2_with fail
    go_ret
    refine ⟨?_, Below.refl _ _⟩
    rw [Hβ.out, decide_eq_false H.out]
    rfl

/-- At most 20 payloads, of at most 300 bytes each. -/
def fewB (l : List (List Int)) : Bool := decide (l.length ≤ 20) && l.all fun y => decide (y.length ≤ 300)
theorem fewB_of {l : List (List Int)} (h : fewB l = true) : l.length ≤ 20 ∧ ∀ y ∈ l, y.length ≤ 300 := by
  unfold fewB at h
  rw [Bool.and_eq_true, decide_eq_true_eq, List.all_eq_true] at h
  exact ⟨h.1, fun y hy => of_decide_eq_true (h.2 y hy)⟩
theorem fewB_get {l : List (List Int)} (h : fewB l = true) (k : Nat) (hk : k < l.length) : (l.getD k []).length ≤ 300 := (fewB_of h).2 _ (by simp [List.getD, hk])

set_option maxRecDepth 100000 in
set_option maxHeartbeats 1000000 in
theorem few_any (A : Option Addr) (n c : Nat) (l : List (List Int)) (w : World) (hA : Wd.Ss w A n c l) :
    Calls Try.prog 17 #[.slice A n c] w fun e w' => e = .returned (.bool (fewB l)) ∧ w = w' := by
  have Hl := Lib.hid hA.len
  have hc1 := hA.cap
  have hc2 := hA.max
  unfold maxLen at hc2
  have HA := Lib.hid hA
  obtain ⟨β, hβ⟩ : ∃ β, β = fewB l := ⟨_, rfl⟩
  rw [← hβ]
  have Hβ := Lib.hid hβ
  clear hA hβ
  by_cases hn : n ≤ 20
  · go_enter Try.func17, Try.ntmps17
    go_wp2_with fail
    go_loop [3] (fun i => ∃ k : Nat, i = .int .i64 (k : Int) ∧ k ≤ n ∧ Hid (∀ j, j < k → (l.getD j []).length ≤ 300)) (fun i => n - (intOf i).toNat)
    case atStart => exact ⟨0, rfl, Nat.zero_le _, Lib.hid (fun j hj => by omega)⟩
    case round =>
      obtain ⟨k, rfl, hk, hT⟩ := hrel
      by_cases hlt : k < n
      · have hka : k < l.length := by rw [← Hl.out]; exact hlt
        obtain ⟨b1, o1, A1, n1, c1, rfl, hlt1, cc1, hS1⟩ := HA.out.at_ k hka
        have hn1 := hS1.len
        have hx1 := hS1.max
        have hx2 := hS1.cap
        unfold maxLen at hx1
        have i1 : (k : Int) < (n : Int) := by omega
        have Hn1 := Lib.hid hn1
        clear hn1 hS1
        by_cases q : n1 ≤ 300
        · go_wp2_with fail
          go_round
          case rel =>
            refine ⟨k + 1, by go_num, by omega, Lib.hid fun j hj => ?_⟩
            by_cases e : j = k
            · subst e; rw [← Hn1.out]; exact q
            · exact hT.out j (by omega)
          case measure => simp [intOf]; omega
        · have q' : (300 : Int) < (n1 : Int) := by omega
          go_wp2_with fail
          go_ret
          refine ⟨?_, rfl⟩
          have : fewB l = false := by
            refine Bool.eq_false_iff.2 fun h => ?_
            have := fewB_get h k hka
            rw [← Hn1.out] at this
            omega
          rw [Hβ.out, this]
          rfl
      · have hkI : ¬ (k : Int) < (n : Int) := by omega
        have hf : fewB l = true := by
          unfold fewB
          rw [Bool.and_eq_true, decide_eq_true_eq, List.all_eq_true]
          refine ⟨by rw [← Hl.out]; exact hn, fun y hy => ?_⟩
          obtain ⟨j, hj, rfl⟩ := List.getElem_of_mem hy
          have := hT.out j (by rw [← Hl.out] at hj; omega)
          rw [show l.getD j [] = l[j] by simp [List.getD, hj]] at this
          exact decide_eq_true this
        have Hf := Lib.hid hf
        clear hf
        go_wp2_with fail
        go_ret
        rw [Hβ.out, Hf.out]
        exact ⟨rfl, rfl⟩
  · have hf : fewB l = false := by
      unfold fewB
      rw [← Hl.out, decide_eq_false hn]
      rfl
    have hn' : (20 : Int) < (n : Int) := by omega
    have Hf := Lib.hid hf
    clear hf
    go_enter Try.func17, Try.ntmps17
    go_wp2_with fail
    go_ret
    rw [Hβ.out, Hf.out]
    exact ⟨rfl, rfl⟩
end Fc
end Go.Proofs.Ytahocgmaeokoaaa
