/- Package bitset: Upto. -/
import Derived.Test.YtgmjafammdkgfaaDoorBwHas
import Derived.Outline
import Derived.BigRegion
import Derived.Deep.DeepCutAuto
import Derived.Deep.CutRange
namespace Go.Proofs.YtgmjafammdkgfaaDoor
set_option maxRecDepth 20000
open Go.RowKit
namespace Bw
open Bs Bx Bi
/-- The first k words are those of T, the others those of L. -/
def mix (T L : List Nat) (k : Nat) : List Nat := T.take k ++ L.drop k
theorem mix_zero (T L : List Nat) : mix T L 0 = L := by simp [mix]
theorem mix_len {T L : List Nat} (h : T.length = L.length) (k : Nat) : (mix T L k).length = L.length := by simp [mix]; omega
theorem mix_at {T L : List Nat} (h : T.length = L.length) (k j : Nat) : (mix T L k).getD j 0 = if j < k then T.getD j 0 else L.getD j 0 := by
  unfold mix
  by_cases q : j < T.length
  · by_cases r : j < k
    · rw [if_pos r, List.getD_eq_getElem?_getD, List.getElem?_append_left (by simp; omega), List.getElem?_take, if_pos r, List.getD_eq_getElem?_getD]
    · rw [if_neg r, List.getD_eq_getElem?_getD, List.getElem?_append_right (by simp; omega), List.getElem?_drop, List.getD_eq_getElem?_getD]
      congr 2
      simp
      omega
  · rw [getD_out (L := T.take k ++ L.drop k) (by simp; omega), getD_out (L := T) (by omega), getD_out (L := L) (by omega)]
    split <;> rfl
theorem ext_getD {L M : List Nat} (hl : L.length = M.length) (h : ∀ j, L.getD j 0 = M.getD j 0) : L = M := by
  refine List.ext_getElem hl fun k h1 h2 => ?_
  have := h k
  rw [List.getD_eq_getElem?_getD, List.getD_eq_getElem?_getD, List.getElem?_eq_getElem h1, List.getElem?_eq_getElem h2] at this
  exact this
theorem mix_set {T L : List Nat} (h : T.length = L.length) (k : Nat) (hk : k < L.length) : (mix T L k).set k (T.getD k 0) = mix T L (k + 1) := by
  refine ext_getD (by simp [mix_len h]) fun j => ?_
  rw [getD_set _ _ _ _ (by rw [mix_len h]; exact hk), mix_at h, mix_at h]
  by_cases e : j = k
  · subst e
    rw [if_pos rfl, if_pos (by omega)]
  · rw [if_neg e]
    by_cases q : j < k
    · rw [if_pos q, if_pos (by omega)]
    · rw [if_neg q, if_neg (by omega)]
theorem mix_end {T L : List Nat} (h : T.length = L.length) {k : Nat} (hk : ∀ j, k ≤ j → j < L.length → T.getD j 0 = L.getD j 0) : mix T L k = T := by
  refine ext_getD (by rw [mix_len h, h]) fun j => ?_
  rw [mix_at h]
  by_cases q : j < k
  · rw [if_pos q]
  · rw [if_neg q]
    by_cases r : j < L.length
    · exact (hk j (by omega) r).symm
    · rw [getD_out (L := L) (by omega), getD_out (L := T) (by omega)]
/-- What Upto answers: a row of the call's own. -/
def UpA (w : World) (k : Int) (e : Ending) (w' : World) : Prop := ∃ A n c, e = .returned (.agg #[.slice A n c]) ∧ Ow w' w.heap.size (.slice A n c) (uptoW (cut k)) ∧ Below w.heap.size w w'
theorem upto_full {n : Nat} (h : n % 64 = 0) : List.replicate ((n + 63) / 64) 18446744073709551615 = uptoW n := by
  refine ext_getD (by rw [upto_len]; simp) fun j => ?_
  by_cases q : j < (n + 63) / 64
  · rw [upto_getD n j q, if_pos (by omega), List.getD_eq_getElem?_getD, List.getElem?_replicate, if_pos q]
    rfl
  · rw [getD_out (L := uptoW n) (by rw [upto_len]; omega), getD_out (by simp; omega)]
theorem upto_part {n p : Nat} (h : n % 64 ≠ 0) (hp : p = n / 64) : (List.replicate (p + 1) 18446744073709551615).set p (2 ^ (n % 64) - 1) = uptoW n := by
  have hl : (n + 63) / 64 = p + 1 := by omega
  refine ext_getD (by rw [upto_len]; simp; omega) fun j => ?_
  rw [getD_set _ _ _ _ (by simp)]
  by_cases q : j < (n + 63) / 64
  · rw [upto_getD n j q]
    by_cases e : j = p
    · rw [if_pos e, if_neg (by omega)]
    · rw [if_neg e, if_pos (by omega), List.getD_eq_getElem?_getD, List.getElem?_replicate, if_pos (by omega)]
      rfl
  · rw [if_neg (by omega), getD_out (L := uptoW n) (by rw [upto_len]; omega), getD_out (by simp; omega)]
theorem rep_at {n k : Nat} (h : k < n) (x : Nat) : (List.replicate n x).getD k 0 = x := by
  rw [List.getD_eq_getElem?_getD, List.getElem?_replicate, if_pos h]
  rfl
theorem ow_made {w : World} {B g n : Nat} (h : w.ownsRow B 50 1 (.slice (some ⟨g, 0, none⟩) n n) n ((List.replicate n (0 : Int)).map (Value.int .u64))) : Ow w B (.slice (some ⟨g, 0, none⟩) n n) (List.replicate n 0) := by
  unfold Ow
  rw [nat_rep, List.length_replicate]
  exact h
theorem pow_pred {r : Nat} (h : r < 64) : IntKind.u64.wrap (IntKind.u64.wrap (2 ^ r) - 1) = ((2 ^ r - 1 : Nat) : Int) := by
  have hp : 2 ^ r < 18446744073709551616 := Nat.pow_lt_pow_right (by omega) h
  have h1 := Nat.two_pow_pos r
  have e1 : IntKind.u64.wrap (2 ^ r) = ((2 ^ r : Nat) : Int) := by
    rw [IntKind.wrap_u64, show ((2 : Int) ^ r) = ((2 ^ r : Nat) : Int) from (Int.natCast_pow 2 r).symm]
    exact Int.emod_eq_of_lt (Int.natCast_nonneg _) (Int.ofNat_lt.2 hp)
  rw [e1, IntKind.wrap_u64]
  generalize 2 ^ r = m at *
  omega
set_option maxHeartbeats 4000000 in
theorem upto_own (k : Int) (w : World) (hk : I64 k) : Calls Tryd.prog 23 #[.int .i64 k] w (UpA w k) := by
  obtain ⟨i0, hi, hz0, hz1, hz2⟩ := info_parts info_w
  obtain ⟨k0, k1⟩ := hk
  obtain ⟨N, hN⟩ : ∃ N, N = cut k := ⟨_, rfl⟩
  have hN1 : N ≤ 65536 := by rw [hN]; unfold cut; omega
  obtain ⟨z, hz⟩ : ∃ z : Int, z = (N : Int) := ⟨_, rfl⟩
  have Hz := Lib.hid (show z = if k < 0 then 0 else if 65536 < k then 65536 else k by rw [hz, hN]; unfold cut; (repeat' split) <;> omega)
  obtain ⟨n, hn⟩ : ∃ n, n = (N + 63) / 64 := ⟨_, rfl⟩
  have e1 : (z + 64 - 1) / 64 = (n : Int) := by omega
  have z0 : 0 ≤ z := by omega
  have z1 : z ≤ 65536 := by omega
  have hn1 : n ≤ 1024 := by omega
  obtain ⟨r, hr⟩ : ∃ r, r = N % 64 := ⟨_, rfl⟩
  have e2 : z % 64 = (r : Int) := by omega
  have HN := Lib.hid hN
  have Hn := Lib.hid hn
  have Hr := Lib.hid hr
  clear hN hz hn hr hN1
  go_enter Tryd.func23, Tryd.ntmps23
  go_upto_region 1 with fail
  go_cut [0] (fun v wx => v = .int .i64 z ∧ wx = w.alloc (.cells #[.slice none 0 0] 27))
  case first =>
    all_goals (go_wp2_with fail)
    all_goals (go_meet; refine ⟨congrArg (Value.int .i64) ?_, rfl⟩; rw [Hz.out]; (repeat' split) <;> omega)
  case rest =>
    obtain ⟨rfl, rfl⟩ := hcut
    go_wp2_with (at_make; refine wpList_make_full _ rfl (.tmp 12) (.tmp 12) 25 rfl (w.heap.size + 1) 50 i0 _ 1 Tryd.underlying25 hi hz0 hz1 .i64 .i64 ((z + 64 - 1) / 64) ((z + 64 - 1) / 64) n rfl rfl e1 e1 (by rw [hz2]; omega) (by unfold maxLen; omega) (by simp) ?_; intro w3 hown hgrow; rw [Wd.made_zero] at hown)
    rw [World.size_alloc] at hown
    have hO0 := ow_made hown
    have x0 : Wd.Var w3 w.heap.size 27 (.slice none 0 0) := (hgrow.block w.heap.size (by simp) (by simp)).trans (Wd.Var.new w _ _)
    have hB0 : Below w.heap.size w w3 := ((Below.refl w.heap.size w).alloc (Nat.le_refl _) _).grown hgrow (by simp) (by simp)
    have hs3 := (World.ownsRow.lt hO0 (w.heap.size + 1) rfl).2
    have Hfl := Lib.hid (show (List.replicate n 18446744073709551615).length = (List.replicate n 0).length by simp)
    clear hown hgrow
    go_loopw [4, 16] (fun u j wr => ∃ q : Nat, j = .int .i64 q ∧ q ≤ n ∧ Ow wr (w.heap.size + 1) (.slice (some ⟨w.heap.size + 1, 0, none⟩) n n) (mix (List.replicate n 18446744073709551615) (List.replicate n 0) q) ∧ Below (w.heap.size + 1) w3 wr) (fun _ j _ => n - (intOf j).toNat)
    case atStart => exact ⟨0, rfl, Nat.zero_le _, by rw [mix_zero]; exact hO0, Below.refl _ _⟩
    case round =>
      obtain ⟨q, rfl, hk, hO, hB⟩ := hrel
      by_cases hlt : q < n
      · have hml : (mix (List.replicate n 18446744073709551615) (List.replicate n 0) q).length = n := by rw [mix_len Hfl.out]; simp
        obtain ⟨hc, hf⟩ := hO.cell hml.symm q (by omega)
        have hkI : (q : Int) < n := by omega
        have HO := Lib.hid hO
        have Hml := Lib.hid hml
        clear hml hO
        go_wp2_with fail
        go_roundw
        case rel =>
          refine ⟨q + 1, by go_num, by omega, ?_, hB.setCell (Nat.le_refl _) _⟩
          rw [← mix_set Hfl.out q (by simpa using hlt), rep_at hlt]
          exact HO.out.set Hml.out.symm q 18446744073709551615
        case measure => simp [intOf]; omega
      · have hkI : ¬ (q : Int) < n := by omega
        rw [mix_end Hfl.out (fun j h1 h2 => by simp at h2; omega)] at hO
        have y0 : Wd.Var wr w.heap.size 27 (.slice none 0 0) := (hB.block _ (by omega)).trans x0
        have hbn := hB0.trans (hB.mono (by omega))
        have Hb := Lib.hid hbn
        clear hB x0 hB0 hO0
        have c1 := y0.cell
        have f1 := y0.free
        by_cases hr0 : r = 0
        · subst hr0
          have hO2 := hO
          rw [show List.replicate n 18446744073709551615 = uptoW (cut k) by rw [Hn.out, ← HN.out]; exact upto_full Hr.out.symm] at hO2
          have HO := Lib.hid (hO2.other (b := w.heap.size) (u := .slice (some ⟨w.heap.size + 1, 0, none⟩) n n) (by omega))
          have c2 := (Wd.Var.set (u := .slice (some ⟨w.heap.size + 1, 0, none⟩) n n) y0).cell
          clear hO hO2
          go_wp2_with fail
          (try simp only [Exit.inBlock, Exit.then])
          refine bodyPost_ret (v := .agg #[.slice (some ⟨w.heap.size + 1, 0, none⟩) n n]) ?_ rfl ⟨_, _, _, rfl, ?_, ?_⟩
          · rw [res_cell1 rfl]; go_simp
          · exact HO.out.down (by omega)
          · exact Hb.out.setCell (Nat.le_refl _) _
        · obtain ⟨p, hp⟩ : ∃ p, p = N / 64 := ⟨_, rfl⟩
          have hnp : n = p + 1 := by have := Hn.out; have := Hr.out; omega
          have e3 : (n : Int) - 1 = (p : Int) := by omega
          have hr1 : (0 : Int) < (r : Int) := by omega
          have hr2 : r < 64 := by have := Hr.out; omega
          have hp0 : (0 : Int) ≤ (p : Int) := by omega
          have hpn : (p : Int) < (n : Int) := by omega
          obtain ⟨hc, hf⟩ := hO.cell (by simp) p (by simp; omega)
          have HO := Lib.hid hO
          have Hup := Lib.hid (show (List.replicate n 18446744073709551615).set p (2 ^ r - 1) = uptoW (cut k) by rw [hnp, Hr.out, ← HN.out]; exact upto_part (by have := Hr.out; omega) hp)
          clear hp hnp hO
          go_wp2_with fail
          have key : IntKind.u64.wrap (IntKind.u64.wrap (2 ^ r) - 1) = ((2 ^ r - 1 : Nat) : Int) := pow_pred hr2
          rw [key]
          have hO3 := HO.out.set (by simp) p (2 ^ r - 1)
          rw [Hup.out] at hO3
          have z0 := y0.other (a := ⟨w.heap.size + 1, p, none⟩) (u := .int .u64 ((2 ^ r - 1 : Nat) : Int)) (by show w.heap.size ≠ w.heap.size + 1; omega)
          have c2 := (Wd.Var.set (u := .slice (some ⟨w.heap.size + 1, 0, none⟩) n n) z0).cell
          have hb2 := Hb.out.setCell (p := ⟨w.heap.size + 1, p, none⟩) (by show w.heap.size ≤ w.heap.size + 1; omega) (.int .u64 ((2 ^ r - 1 : Nat) : Int))
          generalize wr.setCell ⟨w.heap.size + 1, p, none⟩ (.int .u64 ((2 ^ r - 1 : Nat) : Int)) = w5 at *
          (try simp only [Exit.inBlock, Exit.then])
          refine bodyPost_ret (v := .agg #[.slice (some ⟨w.heap.size + 1, 0, none⟩) n n]) ?_ rfl ⟨_, _, _, rfl, ?_, ?_⟩
          · rw [res_cell1 rfl]; go_simp
          · exact (hO3.other (by omega)).down (by omega)
          · exact hb2.setCell (Nat.le_refl _) _
theorem upto_any (k : Int) (w : World) (hk : I64 k) : Calls Tryd.prog 23 #[.int .i64 k] w (Gv St w (uptoL k)) :=
  (upto_own k w hk).mono fun e w' ⟨A, n, c, he, hO, hB⟩ => ⟨A, n, c, he, by
    have hc : cut k ≤ 65536 := by unfold cut; omega
    rw [← upto_lst hc rfl]
    exact st_at hO (upto_wo hc) (upto_tr _), hB⟩
end Bw
end Go.Proofs.YtgmjafammdkgfaaDoor
