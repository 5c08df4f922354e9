/- Package bitset: And. -/
import Derived.Test.YtgmjafammdkgfaaDoorBwUpto
namespace Go.Proofs.YtgmjafammdkgfaaDoor
set_option maxRecDepth 20000
open Go.RowKit
namespace Bw
open Bs Bx Bi
set_option maxHeartbeats 8000000 in
theorem and_any (A : Option Addr) (n c : Nat) (X : List Int) (B : Option Addr) (m d : Nat) (Y : List Int) (w : World) (hX : St w A n c X) (hY : St w B m d Y) :
    Calls Tryd.prog 17 #[.agg #[.slice A n c], .agg #[.slice B m d]] w (Gv St w (andL X Y)) := by
  obtain ⟨i0, hi, hz0, hz1, hz2⟩ := info_parts info_w
  obtain ⟨L, hS, hL, tL, rfl⟩ := hX
  obtain ⟨M, hT, hM, tM, rfl⟩ := hY
  have hb0 := (((Below.refl w.heap.size w).alloc (Nat.le_refl _) (.cells #[.slice A n c] 27)).alloc (by simp) (.cells #[.slice B m d] 27)).alloc (by simp; omega) (.cells #[.slice none 0 0] 27)
  have x0 : Wd.Var (((w.alloc (.cells #[.slice A n c] 27)).alloc (.cells #[.slice B m d] 27)).alloc (.cells #[.slice none 0 0] 27)) w.heap.size 27 (.slice A n c) := ((Wd.Var.new w _ _).alloc _).alloc _
  have x1 : Wd.Var (((w.alloc (.cells #[.slice A n c] 27)).alloc (.cells #[.slice B m d] 27)).alloc (.cells #[.slice none 0 0] 27)) (w.heap.size + 1) 27 (.slice B m d) := by
    have := (Wd.Var.new (w.alloc (.cells #[.slice A n c] 27)) 27 (.slice B m d)).alloc (.cells #[.slice none 0 0] 27)
    rwa [World.size_alloc] at this
  have x2 : Wd.Var (((w.alloc (.cells #[.slice A n c] 27)).alloc (.cells #[.slice B m d] 27)).alloc (.cells #[.slice none 0 0] 27)) (w.heap.size + 1 + 1) 27 (.slice none 0 0) := by
    have := Wd.Var.new ((w.alloc (.cells #[.slice A n c] 27)).alloc (.cells #[.slice B m d] 27)) 27 (.slice none 0 0)
    rwa [World.size_alloc, World.size_alloc] at this
  have hsz : (((w.alloc (.cells #[.slice A n c] 27)).alloc (.cells #[.slice B m d] 27)).alloc (.cells #[.slice none 0 0] 27)).heap.size = w.heap.size + 1 + 1 + 1 := by simp
  have hcap := hS.cap
  have hmx := hS.max
  have hcap2 := hT.cap
  have hmx2 := hT.max
  unfold maxLen at hmx hmx2
  have hn : n = L.length := by rw [hS.len, nat_len]
  have hm : m = M.length := by rw [hT.len, nat_len]
  have hn1 : n ≤ 1024 := by rw [hn]; exact hL.1
  have hm1 : m ≤ 1024 := by rw [hm]; exact hM.1
  obtain ⟨z, hz⟩ : ∃ z, z = min n m := ⟨_, rfl⟩
  obtain ⟨Z, hZ⟩ : ∃ Z, Z = zipL (· &&& ·) (min L.length M.length) L M := ⟨_, rfl⟩
  have hZw := and_lst (M := M) hL
  rw [← hZ] at hZw
  have hZl : Z.length = z := by rw [hZ, zip_len, hz, hn, hm]
  have Hfl := Lib.hid (show Z.length = (List.replicate z 0).length by simp [hZl])
  have Hat := Lib.hid (show ∀ q, q < z → Z.getD q 0 = L.getD q 0 &&& M.getD q 0 from fun q hq => by rw [hZ]; exact zip_getD _ _ _ _ _ (by omega))
  have Hand := Lib.hid fun q => u64_and_nat (L.getD q 0) (M.getD q 0) (hL.2 q) (hM.2 q)
  have Tr := Lib.hid fun A n c w h => trimmed_any A n c Z w h hZw.1
  rw [hZw.2] at Tr
  have HS := Lib.hid (hS.below hb0)
  have HT := Lib.hid (hT.below hb0)
  have Hn := Lib.hid hn
  have Hm := Lib.hid hm
  have HL := Lib.hid hL
  have HM := Lib.hid hM
  have Hb0 := Lib.hid hb0
  have HZl := Lib.hid hZl
  have hz1' : z ≤ 1024 := by omega
  have hzn : z ≤ n := by omega
  have hzm : z ≤ m := by omega
  have Hz := Lib.hid hz
  clear hS hT hn hm hL hM tL tM hZ hZw hZl hz hb0
  rcases (by omega : n ≤ m ∨ m < n) with hnm | hnm
  all_goals (
    have ez : (if n ≤ m then n else m) = z := by have := Hz.out; split <;> omega
    go_enter Tryd.func17, Tryd.ntmps17
    go_wp2_with (at_make; refine wpList_make_full _ rfl (.tmp 13) (.tmp 13) 25 rfl (w.heap.size + 1 + 1 + 1) 50 i0 _ 1 Tryd.underlying25 hi hz0 hz1 .i64 .i64 _ _ z rfl rfl (by have := Hz.out; omega) (by have := Hz.out; omega) (by rw [hz2]; omega) (by unfold maxLen; omega) (by simp) ?_; intro w3 hown hgrow; rw [Wd.made_zero] at hown)
    rw [hsz] at hown
    have hO0 := ow_made hown
    have y0 : Wd.Var w3 w.heap.size 27 (.slice A n c) := (hgrow.block w.heap.size (by rw [hsz]; omega) (by simp)).trans x0
    have y1 : Wd.Var w3 (w.heap.size + 1) 27 (.slice B m d) := (hgrow.block (w.heap.size + 1) (by rw [hsz]; omega) (by simp)).trans x1
    have y2 : Wd.Var w3 (w.heap.size + 1 + 1) 27 (.slice none 0 0) := (hgrow.block (w.heap.size + 1 + 1) (by rw [hsz]; omega) (by simp)).trans x2
    have hB0 : Below w.heap.size w w3 := Hb0.out.grown hgrow (by rw [hsz]; omega) (by simp)
    have hB1 : Below (w.heap.size + 1 + 1 + 1) _ w3 := (Below.refl (w.heap.size + 1 + 1 + 1) _).grown hgrow (by rw [hsz]; omega) (by simp)
    have hs3 := (World.ownsRow.lt hO0 (w.heap.size + 1 + 1 + 1) rfl).2
    have HB1 := Lib.hid hB1
    clear hown hgrow hB1 x0 x1 x2
    go_loopw [6, 17] (fun u j wr => ∃ q : Nat, j = .int .i64 q ∧ q ≤ z ∧ Ow wr (w.heap.size + 1 + 1 + 1) (.slice (some ⟨w.heap.size + 1 + 1 + 1, 0, none⟩) z z) (mix Z (List.replicate z 0) q) ∧ Below (w.heap.size + 1 + 1 + 1) w3 wr) (fun _ j _ => z - (intOf j).toNat)
    case atStart => exact ⟨0, rfl, Nat.zero_le _, by rw [mix_zero]; exact hO0, Below.refl _ _⟩
    case round =>
      obtain ⟨q, rfl, hk, hO, hB⟩ := hrel
      have v0 : Wd.Var wr w.heap.size 27 (.slice A n c) := (hB.block _ (by omega)).trans y0
      have v1 : Wd.Var wr (w.heap.size + 1) 27 (.slice B m d) := (hB.block _ (by omega)).trans y1
      have v2 : Wd.Var wr (w.heap.size + 1 + 1) 27 (.slice none 0 0) := (hB.block _ (by omega)).trans y2
      by_cases hlt : q < z
      · have hml : (mix Z (List.replicate z 0) q).length = z := by rw [mix_len Hfl.out]; simp
        obtain ⟨hc, hf⟩ := hO.cell hml.symm q (by omega)
        have hkI : (q : Int) < z := by omega
        have hq0 : (0 : Int) ≤ (q : Int) := by omega
        have hqn : (q : Int) < n := by omega
        have hqm : (q : Int) < m := by omega
        have HO := Lib.hid hO
        have Hml := Lib.hid hml
        have Ha := Lib.hid (Hat.out q hlt)
        obtain ⟨b1, o1, hA1, hb1, hc1⟩ := (HS.out.below (by rw [hsz]; exact HB1.out.trans hB)).rd q (by rw [nat_len, ← Hn.out]; omega)
        obtain ⟨b2, o2, hA2, hb2, hc2⟩ := (HT.out.below (by rw [hsz]; exact HB1.out.trans hB)).rd q (by rw [nat_len, ← Hm.out]; omega)
        subst hA1 hA2
        rw [nat_getD] at hc1 hc2
        have hand := Hand.out q
        obtain ⟨x, hx⟩ : ∃ x, x = L.getD q 0 := ⟨_, rfl⟩
        obtain ⟨y, hy⟩ : ∃ y, y = M.getD q 0 := ⟨_, rfl⟩
        rw [← hx] at hc1 hand
        rw [← hy] at hc2 hand
        obtain ⟨v, hv⟩ : ∃ v, v = x &&& y := ⟨_, rfl⟩
        rw [← hv] at hand
        have Hv := Lib.hid (show Z.getD q 0 = v by rw [Ha.out, hv, hx, hy])
        have c0 := v0.cell
        have c1 := v1.cell
        have HB := Lib.hid hB
        clear hml hO hv hx hy hB v2 y0 y1 y2
        go_wp2_with fail
        refine wp_region_still_tail 14 (by kernel_rfl) (by kernel_rfl) ?_
        simp only [List.take_succ_cons, List.take_zero, List.drop_succ_cons, List.drop_zero]
        repeat still_step
        try refine wpStill_nil ?_
        change wpList _ _ _ _ _ wr.drew
        go_wp2_with fail
        go_roundw
        case rel =>
          refine ⟨q + 1, by go_num, by omega, ?_, (HB.out.drew).setCell (Nat.le_refl _) _⟩
          rw [← mix_set Hfl.out q (by simpa using hlt), Hv.out]
          exact Ow.set (w := wr.drew) HO.out Hml.out.symm q v
        case measure => simp [intOf]; omega
      · have hkI : ¬ (q : Int) < z := by omega
        rw [mix_end Hfl.out (fun j h1 h2 => by simp at h2; omega)] at hO
        obtain ⟨A5, n5, c5, e5, hS5⟩ := hO.sl
        cases e5
        have C5 := Lib.hid (Tr.out _ _ _ _ hS5)
        have hb4 := hB0.trans (hB.mono (by omega))
        have hs4 := hB.size
        clear hS5 hO hB v0 v1 y0 y1 y2 hB0 hO0
        go_wp2_with fail
        refine C5.out.mono ?_
        rintro e w4 ⟨A4, n4, c4, rfl, hS4, hB4⟩
        have z1 : Wd.Var w4 (w.heap.size + 1 + 1) 27 (.slice none 0 0) := (hB4.block _ v2.lt).trans v2
        have cz := z1.cell
        have fz := z1.free
        have cz2 := (Wd.Var.set (u := .slice A4 n4 c4) z1).cell
        have Hb4 := Lib.hid (hb4.trans (hB4.mono hb4.size))
        clear hB4 hb4 v2
        go_wp2_with fail
        (try simp only [Exit.inBlock, Exit.then])
        refine bodyPost_ret (v := .agg #[.slice A4 n4 c4]) ?_ rfl ⟨_, _, _, rfl, ?_, ?_⟩
        · rw [res_cell1 rfl]; go_simp
        · exact hS4.other cz
        · exact Hb4.out.setCell (by show w.heap.size ≤ w.heap.size + 1 + 1; omega) _)
end Bw
end Go.Proofs.YtgmjafammdkgfaaDoor
