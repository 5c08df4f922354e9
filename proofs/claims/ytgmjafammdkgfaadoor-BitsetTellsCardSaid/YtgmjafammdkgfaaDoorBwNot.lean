/- Package bitset: Not. -/
import Derived.Test.YtgmjafammdkgfaaDoorBwUpto
namespace Go.Proofs.YtgmjafammdkgfaaDoor
set_option maxRecDepth 20000
open Go.RowKit
namespace Bw
open Bs Bx Bi
theorem Ow.at {w : World} {B n c : Nat} {A : Option Addr} {L : List Nat} (h : Ow w B (.slice A n c) L) (hL : 0 < L.length) : ∃ g, A = some ⟨g, 0, none⟩ ∧ B ≤ g := by
  obtain ⟨g, c', e, hB, -⟩ := h.shape hL
  cases e
  exact ⟨g, rfl, hB⟩
theorem Ow.len {w : World} {B n c : Nat} {A : Option Addr} {L : List Nat} (h : Ow w B (.slice A n c) L) : n = L.length ∧ n ≤ c ∧ c ≤ maxLen := by
  obtain ⟨A', n', c', e, hS⟩ := h.sl
  cases e
  exact ⟨by rw [hS.len, nat_len], hS.cap, hS.max⟩
set_option maxHeartbeats 8000000 in
theorem not_any (A : Option Addr) (n c : Nat) (X : List Int) (k : Int) (w : World) (hX : St w A n c X) (hk : I64 k) :
    Calls Tryd.prog 21 #[.agg #[.slice A n c], .int .i64 k] w (Gv St w (notL X k)) := by
  obtain ⟨L, hS, hL, tL, rfl⟩ := hX
  have hb0 := ((Below.refl w.heap.size w).alloc (Nat.le_refl _) (.cells #[.slice A n c] 27)).alloc (by simp) (.cells #[.slice none 0 0] 27)
  have x0 : Wd.Var ((w.alloc (.cells #[.slice A n c] 27)).alloc (.cells #[.slice none 0 0] 27)) w.heap.size 27 (.slice A n c) := (Wd.Var.new w _ _).alloc _
  have x1 : Wd.Var ((w.alloc (.cells #[.slice A n c] 27)).alloc (.cells #[.slice none 0 0] 27)) (w.heap.size + 1) 27 (.slice none 0 0) := by
    have := Wd.Var.new (w.alloc (.cells #[.slice A n c] 27)) 27 (.slice none 0 0)
    rwa [World.size_alloc] at this
  have hsz : ((w.alloc (.cells #[.slice A n c] 27)).alloc (.cells #[.slice none 0 0] 27)).heap.size = w.heap.size + 1 + 1 := by simp
  have hcap := hS.cap
  have hmx := hS.max
  unfold maxLen at hmx
  have hn : n = L.length := by rw [hS.len, nat_len]
  have hn1 : n ≤ 1024 := by rw [hn]; exact hL.1
  have hc : cut k ≤ 65536 := by unfold cut; omega
  obtain ⟨U, hU⟩ : ∃ U, U = uptoW (cut k) := ⟨_, rfl⟩
  have hUw : Wo U := hU ▸ upto_wo hc
  obtain ⟨Z, hZ⟩ : ∃ Z, Z = subL U L := ⟨_, rfl⟩
  have hZw : Wo Z := hZ ▸ sub_wo hUw
  have hZn : lstW Z = notL (lstW L) k := by rw [hZ, hU]; exact not_lst hc rfl hL
  have Hfl := Lib.hid (show Z.length = U.length by rw [hZ]; exact zip_len _ _ _ _)
  have Hat := Lib.hid (show ∀ q, Z.getD q 0 = U.getD q 0 &&& (18446744073709551615 - L.getD q 0) from fun q => by rw [hZ]; exact sub_getD _ _ _)
  have Hand := Lib.hid fun q => u64_andNot_nat (U.getD q 0) (L.getD q 0) (hUw.2 q) (hL.2 q)
  have Tr := Lib.hid fun A n c w h => trimmed_any A n c Z w h hZw
  rw [hZn] at Tr
  have C1 := Lib.hid (upto_own k ((w.alloc (.cells #[.slice A n c] 27)).alloc (.cells #[.slice none 0 0] 27)) hk)
  unfold UpA at C1
  rw [hsz, ← hU] at C1
  have HS := Lib.hid (hS.below hb0)
  have Hn := Lib.hid hn
  have HU := Lib.hid hUw
  have Hb0 := Lib.hid hb0
  clear hS hn hL tL hZ hZw hZn hUw hU hc hk hb0
  go_enter Tryd.func21, Tryd.ntmps21
  go_wp2_with fail
  refine C1.out.mono ?_
  rintro e w2 ⟨B, m, d, rfl, hO2, hB2⟩
  obtain ⟨hm, hmd, hd⟩ := hO2.len
  unfold maxLen at hd
  have hm1 : m ≤ 1024 := by rw [hm]; exact HU.out.1
  have Hm := Lib.hid hm
  have y0 : Wd.Var w2 w.heap.size 27 (.slice A n c) := (hB2.block _ (by omega)).trans x0
  have y1 : Wd.Var w2 (w.heap.size + 1) 27 (.slice none 0 0) := (hB2.block _ (by omega)).trans x1
  have HB2 := Lib.hid hB2
  have hs2 := hB2.size
  rw [hsz] at hs2
  have HO2 := Lib.hid hO2
  have c0 := y0.cell
  obtain ⟨z, hz⟩ : ∃ z, z = min m n := ⟨_, rfl⟩
  have hzn : z ≤ n := by omega
  have hzm : z ≤ m := by omega
  have Hz := Lib.hid hz
  have hfd : ∀ w : World, (Instr.field 27 (.agg #[.slice B m d]) 0).run Tryd.prog w = .ok (.slice B m d) w := fun _ => by kernel_rfl
  clear hm hB2 hO2 x0 x1 hz
  rcases (by omega : m ≤ n ∨ n < m) with hnm | hnm
  all_goals (
    go_wp2_with fail
    go_loopw [6, 16] (fun u j wr => ∃ q : Nat, j = .int .i64 q ∧ q ≤ z ∧ Ow wr (w.heap.size + 1 + 1) (.slice B m d) (mix Z U q) ∧ Below (w.heap.size + 1 + 1) w2 wr) (fun _ j _ => z - (intOf j).toNat)
    case atStart => exact ⟨0, rfl, Nat.zero_le _, by rw [mix_zero]; exact HO2.out, Below.refl _ _⟩
    case round =>
      obtain ⟨q, rfl, hk, hO, hB⟩ := hrel
      have v0 : Wd.Var wr w.heap.size 27 (.slice A n c) := (hB.block _ (by omega)).trans y0
      have v1 : Wd.Var wr (w.heap.size + 1) 27 (.slice none 0 0) := (hB.block _ (by omega)).trans y1
      by_cases hlt : q < z
      · have hml : (mix Z U q).length = m := by rw [mix_len Hfl.out, Hm.out]
        have hqU : q < U.length := by rw [← Hm.out]; omega
        obtain ⟨g, hBg, hgB⟩ := hO.at (by omega)
        have HgB := Lib.hid hgB
        subst hBg
        obtain ⟨hc, hf⟩ := hO.cell hml.symm q (by omega)
        rw [mix_at Hfl.out, if_neg (Nat.lt_irrefl q)] at hc
        have hq0 : (0 : Int) ≤ (q : Int) := by omega
        have hqn : (q : Int) < n := by omega
        have hqm : (q : Int) < m := by omega
        have HO := Lib.hid hO
        have Hml := Lib.hid hml
        have HqU := Lib.hid hqU
        have Ha := Lib.hid (Hat.out q)
        obtain ⟨b1, o1, hA1, hb1, hc1⟩ := (HS.out.below (by rw [hsz]; exact HB2.out.trans hB)).rd q (by rw [nat_len, ← Hn.out]; omega)
        subst hA1
        rw [nat_getD] at hc1
        have hand := Hand.out q
        obtain ⟨x, hx⟩ : ∃ x, x = U.getD q 0 := ⟨_, rfl⟩
        obtain ⟨y, hy⟩ : ∃ y, y = L.getD q 0 := ⟨_, rfl⟩
        rw [← hx] at hc hand
        rw [← hy] at hc1 hand
        obtain ⟨v, hv⟩ : ∃ v, v = x &&& (18446744073709551615 - y) := ⟨_, rfl⟩
        rw [← hv] at hand
        have Hv := Lib.hid (show Z.getD q 0 = v by rw [Ha.out, hv, hx, hy])
        have c1 := v0.cell
        have HB := Lib.hid hB
        clear hml hqU hO hv hx hy hB v1 y0 y1 c0
        go_wp2_with fail
        refine wp_region_still_tail 11 (by kernel_rfl) (by kernel_rfl) ?_
        simp only [List.take_succ_cons, List.take_zero, List.drop_succ_cons, List.drop_zero]
        repeat still_step
        try refine wpStill_nil ?_
        change wpList _ _ _ _ _ wr.drew
        go_wp2_with fail
        go_roundw
        case rel =>
          refine ⟨q + 1, by go_num, by omega, ?_, (HB.out.drew).setCell HgB.out _⟩
          rw [← mix_set Hfl.out q HqU.out, Hv.out]
          exact Ow.set (w := wr.drew) HO.out Hml.out.symm q v
        case measure => simp [intOf]; omega
      · have hkI : ¬ (q : Int) < z := by omega
        have hkn : m ≤ n → ¬ (q : Int) < m := by have := Hz.out; omega
        have hkm : n < m → ¬ (q : Int) < n := by have := Hz.out; omega
        rw [mix_end Hfl.out (fun j h1 h2 => by
          rw [← Hm.out] at h2
          rw [Hat.out j, getD_out (L := L) (by have := Hz.out; have := Hn.out; omega), Nat.sub_zero, and_full (HU.out.2 j)])] at hO
        have hlen := hO.len
        obtain ⟨A5, n5, c5, e5, hS5⟩ := hO.sl
        cases e5
        have C5 := Lib.hid (Tr.out _ _ _ _ hS5)
        have hb4 := Hb0.out.trans ((HB2.out.trans hB).mono (by omega))
        have hs4 := hB.size
        have HZl := Lib.hid hlen
        clear hS5 hO hB v0 y0 y1 hlen c0
        go_wp2_with fail
        refine C5.out.mono ?_
        rintro e w4 ⟨A4, n4, c4, rfl, hS4, hB4⟩
        have z1 : Wd.Var w4 (w.heap.size + 1) 27 (.slice none 0 0) := (hB4.block _ v1.lt).trans v1
        have cz := z1.cell
        have fz := z1.free
        have cz2 := (Wd.Var.set (u := .slice A4 n4 c4) z1).cell
        have Hb4 := Lib.hid (hb4.trans (hB4.mono hb4.size))
        clear hB4 hb4 v1
        go_wp2_with fail
        (try simp only [Exit.inBlock, Exit.then])
        refine bodyPost_ret (v := .agg #[.slice A4 n4 c4]) ?_ rfl ⟨_, _, _, rfl, ?_, ?_⟩
        · rw [res_cell1 rfl]; go_simp
        · exact hS4.other cz
        · exact Hb4.out.setCell (by show w.heap.size ≤ w.heap.size + 1; omega) _)
end Bw
end Go.Proofs.YtgmjafammdkgfaaDoor
