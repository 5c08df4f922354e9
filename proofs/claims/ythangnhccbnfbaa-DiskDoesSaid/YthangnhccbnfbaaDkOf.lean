/- What remains.of of package disk does. -/
import Derived.Test.YthangnhccbnfbaaDkStr
import Derived.OpenShut
namespace Go.Proofs.Ythangnhccbnfbaa
open Go.RowKit Go.Maps
namespace Dk
theorem of_any (A : Option Addr) (n c : Nat) (keep : List Int) (i rest : Nat) (w : World) (hS : Wd.Sl w .i64 A n c keep) (hF : Wd.Fits .i64 keep) (hi : i ≤ 1000000) (hr : rest ≤ 100000000) :
    Calls Try.prog 43 #[.slice A n c, .int .i64 (i : Int), .int .i64 (rest : Int)] w fun e w' => e = .returned (.int .i64 (kept keep i rest : Int)) ∧ w' = w := by
  obtain ⟨hl, hcp, hmx, hA, hrd⟩ := hS
  have hmx' := hmx
  unfold maxLen at hmx'
  by_cases h0 : n = 0
  · have hk : keep = [] := List.eq_nil_of_length_eq_zero (by omega)
    have e1 : kept keep i rest = 0 := by unfold kept; rw [if_pos hk]
    rw [e1]
    subst h0
    clear hl hk e1
    go_enter Try.func43, Try.ntmps43
    go_wp2_with fail
    go_ret
    exact ⟨rfl, rfl⟩
  · have hpos : 0 < keep.length := by omega
    have hlt : i % keep.length < keep.length := Nat.mod_lt _ hpos
    obtain ⟨b, o, rfl, _, hcell⟩ := hrd (i % keep.length) hlt
    have hw := hF (keep.getD (i % keep.length) 0) (by simp [List.getD, List.getElem?_eq_getElem hlt])
    have hne : keep ≠ [] := by intro e; rw [e] at hpos; simp at hpos
    have e1 : kept keep i rest = (max 0 (keep.getD (i % keep.length) 0)).toNat % (rest + 1) := by unfold kept; rw [if_neg hne]
    obtain ⟨x, hx⟩ : ∃ x, x = keep.getD (i % keep.length) 0 := ⟨_, rfl⟩
    rw [← hx] at hcell hw e1
    obtain ⟨k, hk⟩ : ∃ k, k = i % keep.length := ⟨_, rfl⟩
    rw [← hk] at hcell
    have hkn : (k : Int) < (n : Int) := by omega
    have hb := bounds_i64 hw
    have ht : (i : Int) % (n : Int) = (k : Int) := by rw [hl, hk, ← Int.natCast_emod]
    have hn0 : ((n : Int) == 0) = false := by simp; omega
    have Hl := Lib.hid hl
    have E1 := Lib.hid e1
    generalize hkp : kept keep i rest = kp at E1 ⊢
    have i1 : 1 ≤ (n : Int) := by omega
    clear e1 hkp hl hx hk hrd hF hlt hne hpos h0
    go_enter Try.func43, Try.ntmps43
    go_wp2_with fail
    all_goals (go_ret; refine ⟨?_, rfl⟩; rw [E1.out])
    · rename_i hx
      have hm : (max 0 x).toNat = x.toNat := by omega
      rw [hm]
      have h2 : (x.toNat : Int) = x := by omega
      rw [Int.natCast_emod, h2]
      rfl
    · rename_i hx
      have hm : (max 0 x).toNat = 0 := by omega
      rw [hm]
      simp
end Dk
end Go.Proofs.Ythangnhccbnfbaa
