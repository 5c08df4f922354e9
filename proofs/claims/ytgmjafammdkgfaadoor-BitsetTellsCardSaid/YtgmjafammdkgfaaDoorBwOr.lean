/- Package bitset: Or. -/
import Derived.Test.YtgmjafammdkgfaaDoorBwUpto
import Derived.Laws.CopyOwn
namespace Go.Proofs.YtgmjafammdkgfaaDoor
set_option maxRecDepth 20000
open Go.RowKit
namespace Bw
open Bs Bx Bi
/-- A row of the call's own that has no spare room, as its block holds it. -/
theorem ow_full {w : World} {B g z : Nat} {L : List Nat} (h : Ow w B (.slice (some ⟨g, 0, none⟩) z z) L) (hz : L.length = z) : w.heap[g]? = some (.cells ((nat L).map (Value.int .u64)).toArray 50) := by
  subst hz
  rcases h.2 with ⟨hq, _⟩ | ⟨g', cap', cur, hq, hb, hg, h1, h2, h3, h4⟩
  · cases hq
  · simp only [Value.slice.injEq, Option.some.injEq, Addr.mk.injEq, and_true, true_and] at hq
    obtain ⟨rfl, rfl⟩ := hq
    rw [hg, ← h4, List.take_of_length_le (by simp [h3])]
theorem full_ow {w : World} {B g z : Nat} {L : List Nat} (hg : w.heap[g]? = some (.cells ((nat L).map (Value.int .u64)).toArray 50)) (hB : B ≤ g) (hz : L.length = z) (hm : z ≤ maxLen) : Ow w B (.slice (some ⟨g, 0, none⟩) z z) L := by
  subst hz
  exact ⟨by simp [nat_len], .inr ⟨g, _, _, rfl, hB, hg, Nat.le_refl _, hm, by simp [nat_len], by rw [List.take_of_length_le (by simp [nat_len])]⟩⟩
theorem splice_pad (L : List Nat) (z : Nat) (_h : L.length ≤ z) : splice ((nat (List.replicate z 0)).map (Value.int .u64)) 0 ((nat L).map (Value.int .u64)) = (nat (pad L z)).map (Value.int .u64) := by
  unfold splice pad
  rw [← nat_app, List.map_append, nat_rep, nat_rep]
  simp [nat_len]
theorem cpos {w : World} {A : Option Addr} {n c : Nat} {L : List Nat} {o : Addr} (h : Wd.Sl w .u64 A n c (nat L)) (hp : 0 < ((nat L).map (Value.int .u64)).length) : some o = some o ∧ ∃ ad, A = some ad ∧ ∀ j v, ((nat L).map (Value.int .u64))[j]? = some v → w.cell? (ad.add j) = some v := by
  refine ⟨rfl, ?_⟩
  obtain ⟨b, o, rfl, hb, -⟩ := h.rd 0 (by simpa using hp)
  refine ⟨_, rfl, fun j v hv => ?_⟩
  rw [List.getElem?_map] at hv
  by_cases q : j < (nat L).length
  · obtain ⟨b', o', e, -, hc⟩ := h.rd j q
    cases e
    rw [List.getElem?_eq_getElem q] at hv
    cases hv
    rw [Addr.add_lit, hc]
    simp [List.getD, List.getElem?_eq_getElem q]
  · rw [List.getElem?_eq_none (by omega)] at hv
    cases hv
set_option maxHeartbeats 8000000 in
theorem or_any (A : Option Addr) (n c : Nat) (X : List Int) (B : Option Addr) (m d : Nat) (Y : List Int) (w : World) (hX : St w A n c X) (hY : St w B m d Y) :
    Calls Tryd.prog 19 #[.agg #[.slice A n c], .agg #[.slice B m d]] w (Gv St w (orL X Y)) := by
  obtain ⟨i0, hi, hz0, hz1, hz2⟩ := info_parts info_w
  obtain ⟨L, hS, hL, tL, rfl⟩ := hX
  obtain ⟨M, hT, hM, tM, rfl⟩ := hY
  have hb0 := (((Below.refl w.heap.size w).alloc (Nat.le_refl _) (.cells #[.slice A n c] 27)).alloc (by simp) (.cells #[.slice B m d] 27)).alloc (by simp; omega) (.cells #[.slice none 0 0] 27)
  have x0 : Wd.Var (((w.alloc (.cells #[.slice A n c] 27)).alloc (.cells #[.slice B m d] 27)).alloc (.cells #[.slice none 0 0] 27)) w.heap.size 27 (.slice A n c) := ((Wd.Var.new w _ _).alloc _).alloc _
  have x1 : Wd.Var (((w.alloc (.cells #[.slice A n c] 27)).alloc (.cells #[.slice B m d] 27)).alloc (.cells #[.slice none 0 0] 27)) (w.heap.size + 1) 27 (.slice B m d) := by
    have := (Wd.Var.new (w.alloc (.cells #[.slice A n c] 27)) 27 (.slice B m d)).alloc (.cells #[.slice none 0 0] 27)
    rwa [World.size_alloc] at this
  have x2 : Wd.Var (((w.alloc (.cells #[.slice A n c] 27)).alloc (.cells #[.slice B m d] 27)).alloc (.cells #[.slice none 0 0] 27)) (w.heap.size + 1 + 1) 27 (.slice none 0 0) := by
    have := Wd.Var.new ((w.alloc (.cells #[.slice A n c] 27)).alloc (.cells #[.slice B m d] 27)) 27 (.slice none 0 0)
    rwa [World.size_alloc, World.size_alloc] at this
  have hsz : (((w.alloc (.cells #[.slice A n c] 27)).alloc (.cells #[.slice B m d] 27)).alloc (.cells #[.slice none 0 0] 27)).heap.size = w.heap.size + 1 + 1 + 1 := by simp
  have hcap := hS.cap
  have hmx := hS.max
  have hcap2 := hT.cap
  have hmx2 := hT.max
  unfold maxLen at hmx hmx2
  have hn : n = L.length := by rw [hS.len, nat_len]
  have hm : m = M.length := by rw [hT.len, nat_len]
  have hn1 : n ≤ 1024 := by rw [hn]; exact hL.1
  have hm1 : m ≤ 1024 := by rw [hm]; exact hM.1
  obtain ⟨z, hz⟩ : ∃ z, z = max n m := ⟨_, rfl⟩
  obtain ⟨Z, hZ⟩ : ∃ Z, Z = zipL (· ||| ·) (max L.length M.length) L M := ⟨_, rfl⟩
  have hZw := or_lst hL hM
  have hZt := or_tr tL tM
  rw [← hZ] at hZw hZt
  have hZl : Z.length = z := by rw [hZ, zip_len, hz, hn, hm]
  have Hfl := Lib.hid (show Z.length = (pad L z).length by rw [pad_len, hZl]; omega)
  have Hat := Lib.hid (show ∀ q, q < z → Z.getD q 0 = L.getD q 0 ||| M.getD q 0 from fun q hq => by rw [hZ]; exact zip_getD _ _ _ _ _ (by omega))
  have Hor := Lib.hid fun q => u64_or_nat (L.getD q 0) (M.getD q 0) (hL.2 q) (hM.2 q)
  have HZ := Lib.hid hZw
  have HZt := Lib.hid hZt
  have HS := Lib.hid (hS.below hb0)
  have HT := Lib.hid (hT.below hb0)
  have Hn := Lib.hid hn
  have Hm := Lib.hid hm
  have HL := Lib.hid hL
  have HM := Lib.hid hM
  have Hb0 := Lib.hid hb0
  have HZl := Lib.hid hZl
  have hz1' : z ≤ 1024 := by omega
  have hzn : n ≤ z := by omega
  have hzm : m ≤ z := by omega
  have Hz := Lib.hid hz
  clear hS hT hn hm hL hM tL tM hZ hZw hZt hZl hz hb0
  have Hsp := Lib.hid (splice_pad L z (by rw [← Hn.out]; omega))
  have Hln := Lib.hid (show ((nat L).map (Value.int .u64)).length = n by rw [List.length_map, nat_len, Hn.out])
  rcases (by omega : m ≤ n ∨ n < m) with hnm | hnm
  all_goals (
    go_enter Tryd.func19, Tryd.ntmps19
    go_wp2_with (first
      | (at_make
         refine wpList_make_full _ rfl (.tmp 14) (.tmp 14) 25 rfl (w.heap.size + 1 + 1 + 1) 50 i0 _ 1 Tryd.underlying25 hi hz0 hz1 .i64 .i64 _ _ z rfl rfl (by have := Hz.out; omega) (by have := Hz.out; omega) (by rw [hz2]; omega) (by unfold maxLen; omega) (by simp) ?_
         intro w3 hown hgrow
         rw [Wd.made_zero] at hown
         rw [hsz] at hown
         have hO0 := ow_made hown
         have y0 : Wd.Var w3 w.heap.size 27 (.slice A n c) := (hgrow.block w.heap.size (by rw [hsz]; omega) (by simp)).trans x0
         have y1 : Wd.Var w3 (w.heap.size + 1) 27 (.slice B m d) := (hgrow.block (w.heap.size + 1) (by rw [hsz]; omega) (by simp)).trans x1
         have y2 : Wd.Var w3 (w.heap.size + 1 + 1) 27 (.slice none 0 0) := (hgrow.block (w.heap.size + 1 + 1) (by rw [hsz]; omega) (by simp)).trans x2
         have HB1 := Lib.hid ((Below.refl (w.heap.size + 1 + 1 + 1) _).grown hgrow (by rw [hsz]; omega) (by simp))
         have c0 := y0.cell
         have Hrow := Lib.hid (ow_full hO0 (by simp))
         have hlt3 := (World.ownsRow.lt hO0 (w.heap.size + 1 + 1 + 1) rfl).2
         have HS3 := Lib.hid (HS.out.below (w' := w3) (by rw [hsz]; exact HB1.out))
         clear hown hgrow x0 x1 x2 hO0)
      | (refine wpList_copy_splice (o := ⟨some 19, _, _, _, _, _⟩) rfl (.tmp 16) (.tmp 18) 25 25 rfl 50 Tryd.underlying25 (by kernel_rfl) _ _ _ _ _ _ rfl rfl (w.heap.size + 1 + 1 + 1) 0 ((nat (List.replicate z 0)).map (Value.int .u64)) 50 Hrow.out ((nat L).map (Value.int .u64)) (by rw [Hln.out]; exact (Nat.min_eq_left (by omega)).symm) (cpos HS3.out) (by rw [Hln.out, List.length_map, nat_len, List.length_replicate]; omega) (fun v hv => by obtain ⟨x, _, rfl⟩ := List.mem_map.1 hv; rfl) (w.heap.size + 1 + 1 + 1) w3 (Below.refl _ _) (Nat.le_refl _) ?_
         intro w4 hg4 hb4
         have hg5 := hg4.out
         rw [Hsp.out] at hg5
         have HO4 := Lib.hid (full_ow (B := w.heap.size + 1 + 1 + 1) (z := z) hg5 (Nat.le_refl _) (by rw [pad_len]; have := Hn.out; omega) (by unfold maxLen; omega))
         have u0 : Wd.Var w4 w.heap.size 27 (.slice A n c) := (hb4.block _ (by omega)).trans y0
         have u1 : Wd.Var w4 (w.heap.size + 1) 27 (.slice B m d) := (hb4.block _ (by omega)).trans y1
         have u2 : Wd.Var w4 (w.heap.size + 1 + 1) 27 (.slice none 0 0) := (hb4.block _ (by omega)).trans y2
         have c1 := u1.cell
         have HB4 := Lib.hid (HB1.out.trans hb4)
         have hs4 := hb4.size
         clear hg4 hg5 hb4 y0 y1 y2 c0 Hrow))
    go_loopw [6, 7, 23] (fun u v j wr => ∃ q : Nat, j = .int .i64 q ∧ q ≤ m ∧ Ow wr (w.heap.size + 1 + 1 + 1) (.slice (some ⟨w.heap.size + 1 + 1 + 1, 0, none⟩) z z) (mix Z (pad L z) q) ∧ Below (w.heap.size + 1 + 1 + 1) w4 wr) (fun _ _ j _ => m - (intOf j).toNat)
    case atStart => exact ⟨0, rfl, Nat.zero_le _, by rw [mix_zero]; exact HO4.out, Below.refl _ _⟩
    case round =>
      obtain ⟨q, rfl, hk, hO, hB⟩ := hrel
      have v2 : Wd.Var wr (w.heap.size + 1 + 1) 27 (.slice none 0 0) := (hB.block _ (by omega)).trans u2
      by_cases hlt : q < m
      · have hml : (mix Z (pad L z) q).length = z := by rw [mix_len Hfl.out, pad_len]; have := Hn.out; omega
        obtain ⟨hc, hf⟩ := hO.cell hml.symm q (by omega)
        rw [mix_at Hfl.out, if_neg (Nat.lt_irrefl q), pad_getD] at hc
        have hkI : (q : Int) < m := by omega
        have hq0 : (0 : Int) ≤ (q : Int) := by omega
        have hqn : (q : Int) < z := by omega
        have HO := Lib.hid hO
        have Hml := Lib.hid hml
        have Ha := Lib.hid (Hat.out q (by omega))
        obtain ⟨b2, o2, hA2, hb2, hc2⟩ := (HT.out.below (by rw [hsz]; exact HB4.out.trans hB)).rd q (by rw [nat_len, ← Hm.out]; omega)
        subst hA2
        rw [nat_getD] at hc2
        have hor := Hor.out q
        obtain ⟨x, hx⟩ : ∃ x, x = L.getD q 0 := ⟨_, rfl⟩
        obtain ⟨y, hy⟩ : ∃ y, y = M.getD q 0 := ⟨_, rfl⟩
        rw [← hx] at hc hor
        rw [← hy] at hc2 hor
        obtain ⟨v, hv⟩ : ∃ v, v = x ||| y := ⟨_, rfl⟩
        rw [← hv] at hor
        have Hv := Lib.hid (show Z.getD q 0 = v by rw [Ha.out, hv, hx, hy])
        have HB := Lib.hid hB
        clear hml hO hv hx hy hB v2 u0 u1 u2 c1
        go_wp2_with fail
        go_roundw
        case rel =>
          refine ⟨q + 1, by go_num, by omega, ?_, HB.out.setCell (Nat.le_refl _) _⟩
          rw [← mix_set Hfl.out q (by rw [pad_len]; omega), Hv.out]
          exact HO.out.set Hml.out.symm q v
        case measure => simp [intOf]; omega
      · have hkI : ¬ (q : Int) < m := by omega
        rw [mix_end Hfl.out (fun j h1 h2 => by
          rw [pad_len] at h2
          rw [Hat.out j (by have := Hn.out; omega), pad_getD, getD_out (L := M) (by rw [← Hm.out]; omega), Nat.or_zero])] at hO
        have cz := v2.cell
        have fz := v2.free
        have cz2 := (Wd.Var.set (u := .slice (some ⟨w.heap.size + 1 + 1 + 1, 0, none⟩) z z) v2).cell
        have HO := Lib.hid hO
        have Hb4 := Lib.hid (Hb0.out.trans ((HB4.out.trans hB).mono (by omega)))
        clear hO hB v2 u0 u1 u2 c1
        go_wp2_with fail
        (try simp only [Exit.inBlock, Exit.then])
        refine bodyPost_ret (v := .agg #[.slice (some ⟨w.heap.size + 1 + 1 + 1, 0, none⟩) z z]) ?_ rfl ⟨_, _, _, rfl, ?_, ?_⟩
        · rw [res_cell1 rfl]; go_simp
        · rw [← HZ.out.2]
          exact st_at (HO.out.other (by omega)) HZ.out.1 HZt.out
        · exact Hb4.out.setCell (by show w.heap.size ≤ w.heap.size + 1 + 1; omega) _)
end Bw
end Go.Proofs.YtgmjafammdkgfaaDoor
