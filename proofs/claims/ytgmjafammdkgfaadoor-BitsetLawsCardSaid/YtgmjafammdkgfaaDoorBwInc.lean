/- Package bitset's include, where the words are of the call's own. -/
import Derived.Test.YtgmjafammdkgfaaDoorBwBase
import Derived.StillTailTactics
namespace Go.Proofs.YtgmjafammdkgfaaDoor
set_option maxRecDepth 20000
open Go.RowKit
namespace Bw
open Bs Bx Bi
/-- What include answers. -/
def IncA (w : World) (B : Nat) (M : List Nat) (e : Ending) (w' : World) : Prop := ∃ v', e = .returned v' ∧ Ow w' B v' M ∧ Below B w w'
set_option maxHeartbeats 4000000 in
theorem include_any (B : Nat) (v : Value) (L : List Nat) (i : Int) (w : World) (h : Ow w B v L) (hw : Wo L) (hB : B ≤ w.heap.size) :
    Calls Tryd.prog 29 #[v, .int .i64 i] w (IncA w B (incI L i)) := by
  have Bit := Lib.hid fun k hk w => bit_any k hk w
  by_cases h0 : 0 ≤ i
  case neg =>
    have hlt : i < 0 := by omega
    rw [incI_out (by omega)]
    clear h0
    go_enter Tryd.func29, Tryd.ntmps29
    go_wp2
    go_ret
    exact ⟨_, rfl, h, Below.refl _ _⟩
  by_cases h1 : i < 65536
  case neg =>
    have hge : 65536 ≤ i := by omega
    rw [incI_out (by omega)]
    clear h1
    go_enter Tryd.func29, Tryd.ntmps29
    go_wp2
    go_ret
    exact ⟨_, rfl, h, Below.refl _ _⟩
  obtain ⟨k, hik⟩ : ∃ k : Nat, i = (k : Int) := ⟨i.toNat, by omega⟩
  have hk : k < 65536 := by omega
  have Ck := Lib.hid fun w => bit_any k hk w
  have hin0 : incI L i = incL L k := by rw [hik]; exact incI_in hk
  rw [← hik] at Ck
  obtain ⟨y, hy⟩ : ∃ y, y = 2 ^ (k % 64) := ⟨_, rfl⟩
  rw [← hy] at Ck
  have hy1 : y < 18446744073709551616 := by rw [hy]; exact pow_lt k
  obtain ⟨q, hq⟩ : ∃ q, q = k / 64 := ⟨_, rfl⟩
  have eq1 : i / 64 = (q : Int) := by omega
  have hq1 : q < 1024 := by omega
  have et : IntKind.i64.wrap (i.tdiv 64) = (q : Int) := by rw [Int.tdiv_eq_ediv_of_nonneg h0, eq1, IntKind.wrap_i64]; omega
  have Hin := Lib.hid (show incI L i = (pad L (q + 1)).set q (L.getD q 0 ||| y) by rw [hin0, hq, hy]; rfl)
  have Hor := Lib.hid (u64_or_nat (L.getD q 0) y (hw.2 q) hy1)
  have HW := Lib.hid hw
  clear hq hy hk hw Bit hy1 hin0 hik
  by_cases hqL : q < L.length
  · obtain ⟨g, c, rfl, hBg, hgw, hnc, hcm⟩ := h.shape (by omega)
    obtain ⟨hc, hf⟩ := h.cell rfl q hqL
    have Ho := Lib.hid h
    have Hqn := Lib.hid hqL
    obtain ⟨n, hn⟩ : ∃ n, n = L.length := ⟨_, rfl⟩
    obtain ⟨x, hx⟩ : ∃ x, x = L.getD q 0 := ⟨_, rfl⟩
    rw [← hn] at hnc hqL ⊢
    rw [← hx] at hc
    have hqi : (q : Int) < (n : Int) := by omega
    have hq0 : (0 : Int) ≤ (q : Int) := by omega
    have hn1 : n ≤ 1024 := by rw [hn]; exact HW.out.1
    have Hn := Lib.hid hn
    have Hx := Lib.hid hx
    unfold maxLen at hcm
    clear hn hx h
    go_enter Tryd.func29, Tryd.ntmps29
    go_wp2_with fail
    refine wp_region_still_tail 9 (by kernel_rfl) (by kernel_rfl) ?_
    simp only [List.take_succ_cons, List.take_zero, List.drop_succ_cons, List.drop_zero]
    repeat (first | still_call (Ck.out _) | still_step)
    try refine wpStill_nil ?_
    change wpList _ _ _ _ _ w.drew
    go_wp2_with fail
    go_ret
    rw [Hx.out, Hor.out, Hin.out, pad_le (by have := Hqn.out; omega), Hn.out]
    exact ⟨_, rfl, Ow.set (w := w.drew) Ho.out rfl q _, (Below.refl _ _).drew.setCell hBg _⟩
  · obtain ⟨A, n, c, rfl, hS⟩ := h.sl
    have hn : n = L.length := by rw [hS.len, nat_len]
    have hqi : ¬ (q : Int) + 1 ≤ (n : Int) := by omega
    have hcap := hS.cap
    have hmx := hS.max
    unfold maxLen at hmx
    have hn1 : n ≤ 1024 := by rw [hn]; exact HW.out.1
    have Hn := Lib.hid hn
    have Ho := Lib.hid h
    have HqL := Lib.hid hqL
    clear hn h hqL hS
    obtain ⟨m, hm⟩ : ∃ m, m = q + 1 - n := ⟨_, rfl⟩
    have em : (q : Int) + 1 - (n : Int) = (m : Int) := by omega
    have hm0 : 0 < m := by omega
    have Hm := Lib.hid hm
    clear hm
    go_enter Tryd.func29, Tryd.ntmps29
    go_wp2_with (at_builtin; refine wpList_zeros _ rfl (.tmp 21) (.tmp 22) rfl B (.slice A n c) L rfl Ho.out _ m rfl rfl hm0 (by have := Hn.out; have := Hm.out; omega) hB ?_; intro v1 w1 hO1 hG1)
    have hb1 : Below B w w1 := (Below.refl B w).grown hG1 hB fun k hk => (World.ownsRow.lt Ho.out k hk).1
    have hM : L ++ List.replicate m 0 = pad L (q + 1) := by unfold pad; rw [Hm.out, Hn.out]
    have hMl : (L ++ List.replicate m 0).length = q + 1 := by have := Hn.out; have := Hm.out; simp; omega
    obtain ⟨g, c1, rfl, hBg, hgw, hnc, hcm⟩ := hO1.shape (by omega)
    obtain ⟨hc, hf⟩ := hO1.cell rfl q (by omega)
    have Ho1 := Lib.hid hO1
    rw [hM, pad_getD] at hc
    obtain ⟨x, hx⟩ : ∃ x, x = L.getD q 0 := ⟨_, rfl⟩
    rw [← hx] at hc
    have Hx := Lib.hid hx
    have HM := Lib.hid hM
    obtain ⟨N, hN⟩ : ∃ N, N = (L ++ List.replicate m 0).length := ⟨_, rfl⟩
    rw [← hN] at hnc ⊢
    have hq0 : (0 : Int) ≤ (q : Int) := by omega
    have hq2 : (q : Int) < (N : Int) := by omega
    have HN := Lib.hid hN
    unfold maxLen at hcm
    clear hM hMl hx hO1 hG1 hN
    refine wp_region_still_tail 9 (by kernel_rfl) (by kernel_rfl) ?_
    simp only [List.take_succ_cons, List.take_zero, List.drop_succ_cons, List.drop_zero]
    repeat (first | still_call (Ck.out _) | still_step)
    try refine wpStill_nil ?_
    change wpList _ _ _ _ _ w1.drew
    go_wp2_with fail
    go_ret
    rw [Hx.out, Hor.out, Hin.out, ← HM.out]
    exact ⟨_, rfl, Ow.set (w := w1.drew) (by rw [HN.out]; exact Ho1.out) HN.out q _, hb1.drew.setCell hBg _⟩
end Bw
end Go.Proofs.YtgmjafammdkgfaaDoor
