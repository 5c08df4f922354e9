/- Package bitset: Upto. Package bitset: Same; slices.Equal of words. Package column: width, areAll, unpack, May. A row of values that is filled place by place. What the reference's Unpack does. -/
import Derived.Outline
import Derived.BigRegion
import Derived.Deep.DeepCutAuto
import Derived.Deep.CutRange
import Derived.StillTailTactics
import Derived.BigQuiet
import Derived.Deep.RegionHeld3
import Derived.Test.YtaoeipehpakngaaGreatDoorPb17
import Derived.Test.YtaoeipehpakngaaGreatDoorPb06
import Derived.Test.YtaoeipehpakngaaGreatDoorPb12
import Derived.Test.YtaoeipehpakngaaGreatDoorPb15
import Derived.Test.YtaoeipehpakngaaGreatDoorPb16
import Derived.Test.YtaoeipehpakngaaGreatDoorPb07
namespace Go.Proofs.YtaoeipehpakngaaGreatDoor
set_option maxRecDepth 20000
open Go.RowKit
namespace Bw
open Bs Bx Bi
def mix (T L : List Nat) (k : Nat) : List Nat := T.take k ++ L.drop k
theorem mix_zero (T L : List Nat) : mix T L 0 = L := by simp [mix]
theorem mix_len {T L : List Nat} (h : T.length = L.length) (k : Nat) : (mix T L k).length = L.length := by simp [mix]; omega
theorem mix_at {T L : List Nat} (h : T.length = L.length) (k j : Nat) : (mix T L k).getD j 0 = if j < k then T.getD j 0 else L.getD j 0 := by
  unfold mix
  by_cases q : j < T.length
  · by_cases r : j < k
    · rw [if_pos r, List.getD_eq_getElem?_getD, List.getElem?_append_left (by simp; omega), List.getElem?_take, if_pos r, List.getD_eq_getElem?_getD]
    · rw [if_neg r, List.getD_eq_getElem?_getD, List.getElem?_append_right (by simp; omega), List.getElem?_drop, List.getD_eq_getElem?_getD]
      congr 2
      simp
      omega
  · rw [getD_out (L := T.take k ++ L.drop k) (by simp; omega), getD_out (L := T) (by omega), getD_out (L := L) (by omega)]
    split <;> rfl
theorem ext_getD {L M : List Nat} (hl : L.length = M.length) (h : ∀ j, L.getD j 0 = M.getD j 0) : L = M := by
  refine List.ext_getElem hl fun k h1 h2 => ?_
  have := h k
  rw [List.getD_eq_getElem?_getD, List.getD_eq_getElem?_getD, List.getElem?_eq_getElem h1, List.getElem?_eq_getElem h2] at this
  exact this
theorem mix_set {T L : List Nat} (h : T.length = L.length) (k : Nat) (hk : k < L.length) : (mix T L k).set k (T.getD k 0) = mix T L (k + 1) := by
  refine ext_getD (by simp [mix_len h]) fun j => ?_
  rw [getD_set _ _ _ _ (by rw [mix_len h]; exact hk), mix_at h, mix_at h]
  by_cases e : j = k
  · subst e
    rw [if_pos rfl, if_pos (by omega)]
  · rw [if_neg e]
    by_cases q : j < k
    · rw [if_pos q, if_pos (by omega)]
    · rw [if_neg q, if_neg (by omega)]
theorem mix_end {T L : List Nat} (h : T.length = L.length) {k : Nat} (hk : ∀ j, k ≤ j → j < L.length → T.getD j 0 = L.getD j 0) : mix T L k = T := by
  refine ext_getD (by rw [mix_len h, h]) fun j => ?_
  rw [mix_at h]
  by_cases q : j < k
  · rw [if_pos q]
  · rw [if_neg q]
    by_cases r : j < L.length
    · exact (hk j (by omega) r).symm
    · rw [getD_out (L := L) (by omega), getD_out (L := T) (by omega)]
def UpA (w : World) (k : Int) (e : Ending) (w' : World) : Prop := ∃ A n c, e = .returned (.agg #[.slice A n c]) ∧ Ow w' w.heap.size (.slice A n c) (uptoW (cut k)) ∧ Below w.heap.size w w'
theorem upto_full {n : Nat} (h : n % 64 = 0) : List.replicate ((n + 63) / 64) 18446744073709551615 = uptoW n := by
  refine ext_getD (by rw [upto_len]; simp) fun j => ?_
  by_cases q : j < (n + 63) / 64
  · rw [upto_getD n j q, if_pos (by omega), List.getD_eq_getElem?_getD, List.getElem?_replicate, if_pos q]
    rfl
  · rw [getD_out (L := uptoW n) (by rw [upto_len]; omega), getD_out (by simp; omega)]
theorem upto_part {n p : Nat} (h : n % 64 ≠ 0) (hp : p = n / 64) : (List.replicate (p + 1) 18446744073709551615).set p (2 ^ (n % 64) - 1) = uptoW n := by
  have hl : (n + 63) / 64 = p + 1 := by omega
  refine ext_getD (by rw [upto_len]; simp; omega) fun j => ?_
  rw [getD_set _ _ _ _ (by simp)]
  by_cases q : j < (n + 63) / 64
  · rw [upto_getD n j q]
    by_cases e : j = p
    · rw [if_pos e, if_neg (by omega)]
    · rw [if_neg e, if_pos (by omega), List.getD_eq_getElem?_getD, List.getElem?_replicate, if_pos (by omega)]
      rfl
  · rw [if_neg (by omega), getD_out (L := uptoW n) (by rw [upto_len]; omega), getD_out (by simp; omega)]
theorem rep_at {n k : Nat} (h : k < n) (x : Nat) : (List.replicate n x).getD k 0 = x := by
  rw [List.getD_eq_getElem?_getD, List.getElem?_replicate, if_pos h]
  rfl
theorem ow_made {w : World} {B g n : Nat} (h : w.ownsRow B 131 1 (.slice (some ⟨g, 0, none⟩) n n) n ((List.replicate n (0 : Int)).map (Value.int .u64))) : Ow w B (.slice (some ⟨g, 0, none⟩) n n) (List.replicate n 0) := by
  unfold Ow
  rw [nat_rep, List.length_replicate]
  exact h
theorem pow_pred {r : Nat} (h : r < 64) : IntKind.u64.wrap (IntKind.u64.wrap (2 ^ r) - 1) = ((2 ^ r - 1 : Nat) : Int) := by
  have hp : 2 ^ r < 18446744073709551616 := Nat.pow_lt_pow_right (by omega) h
  have h1 := Nat.two_pow_pos r
  have e1 : IntKind.u64.wrap (2 ^ r) = ((2 ^ r : Nat) : Int) := by
    rw [IntKind.wrap_u64, show ((2 : Int) ^ r) = ((2 ^ r : Nat) : Int) from (Int.natCast_pow 2 r).symm]
    exact Int.emod_eq_of_lt (Int.natCast_nonneg _) (Int.ofNat_lt.2 hp)
  rw [e1, IntKind.wrap_u64]
  generalize 2 ^ r = m at *
  omega
set_option maxHeartbeats 4000000 in
theorem upto_own (k : Int) (w : World) (hk : I64 k) : Calls Tryz.prog 221 #[.int .i64 k] w (UpA w k) := by
  obtain ⟨i0, hi, hz0, hz1, hz2⟩ := info_parts info_w
  obtain ⟨k0, k1⟩ := hk
  obtain ⟨N, hN⟩ : ∃ N, N = cut k := ⟨_, rfl⟩
  have hN1 : N ≤ 65536 := by rw [hN]; unfold cut; omega
  obtain ⟨z, hz⟩ : ∃ z : Int, z = (N : Int) := ⟨_, rfl⟩
  have Hz := Lib.hid (show z = if k < 0 then 0 else if 65536 < k then 65536 else k by rw [hz, hN]; unfold cut; (repeat' split) <;> omega)
  obtain ⟨n, hn⟩ : ∃ n, n = (N + 63) / 64 := ⟨_, rfl⟩
  have e1 : (z + 64 - 1) / 64 = (n : Int) := by omega
  have z0 : 0 ≤ z := by omega
  have z1 : z ≤ 65536 := by omega
  have hn1 : n ≤ 1024 := by omega
  obtain ⟨r, hr⟩ : ∃ r, r = N % 64 := ⟨_, rfl⟩
  have e2 : z % 64 = (r : Int) := by omega
  have HN := Lib.hid hN
  have Hn := Lib.hid hn
  have Hr := Lib.hid hr
  clear hN hz hn hr hN1
  go_enter Tryz.func221, Tryz.ntmps221
  go_upto_region 1 with fail
  go_cut [0] (fun v wx => v = .int .i64 z ∧ wx = w.alloc (.cells #[.slice none 0 0] 243))
  case first =>
    all_goals (go_wp2_with fail)
    all_goals (go_meet; refine ⟨congrArg (Value.int .i64) ?_, rfl⟩; rw [Hz.out]; (repeat' split) <;> omega)
  case rest =>
    obtain ⟨rfl, rfl⟩ := hcut
    go_wp2_with (at_make; refine wpList_make_full _ rfl (.tmp 12) (.tmp 12) 241 rfl (w.heap.size + 1) 131 i0 _ 1 Tryz.underlying241 hi hz0 hz1 .i64 .i64 ((z + 64 - 1) / 64) ((z + 64 - 1) / 64) n rfl rfl e1 e1 (by rw [hz2]; omega) (by unfold maxLen; omega) (by simp) ?_; intro w3 hown hgrow; rw [Wd.made_zero] at hown)
    rw [World.size_alloc] at hown
    have hO0 := ow_made hown
    have x0 : Wd.Var w3 w.heap.size 243 (.slice none 0 0) := (hgrow.block w.heap.size (by simp) (by simp)).trans (Wd.Var.new w _ _)
    have hB0 : Below w.heap.size w w3 := ((Below.refl w.heap.size w).alloc (Nat.le_refl _) _).grown hgrow (by simp) (by simp)
    have hs3 := (World.ownsRow.lt hO0 (w.heap.size + 1) rfl).2
    have Hfl := Lib.hid (show (List.replicate n 18446744073709551615).length = (List.replicate n 0).length by simp)
    clear hown hgrow
    go_loopw [4, 16] (fun u j wr => ∃ q : Nat, j = .int .i64 q ∧ q ≤ n ∧ Ow wr (w.heap.size + 1) (.slice (some ⟨w.heap.size + 1, 0, none⟩) n n) (mix (List.replicate n 18446744073709551615) (List.replicate n 0) q) ∧ Below (w.heap.size + 1) w3 wr) (fun _ j _ => n - (intOf j).toNat)
    case atStart => exact ⟨0, rfl, Nat.zero_le _, by rw [mix_zero]; exact hO0, Below.refl _ _⟩
    case round =>
      obtain ⟨q, rfl, hk, hO, hB⟩ := hrel
      by_cases hlt : q < n
      · have hml : (mix (List.replicate n 18446744073709551615) (List.replicate n 0) q).length = n := by rw [mix_len Hfl.out]; simp
        obtain ⟨hc, hf⟩ := hO.cell hml.symm q (by omega)
        have hkI : (q : Int) < n := by omega
        have HO := Lib.hid hO
        have Hml := Lib.hid hml
        clear hml hO
        go_wp2_with fail
        go_roundw
        case rel =>
          refine ⟨q + 1, by go_num, by omega, ?_, hB.setCell (Nat.le_refl _) _⟩
          rw [← mix_set Hfl.out q (by simpa using hlt), rep_at hlt]
          exact HO.out.set Hml.out.symm q 18446744073709551615
        case measure => simp [intOf]; omega
      · have hkI : ¬ (q : Int) < n := by omega
        rw [mix_end Hfl.out (fun j h1 h2 => by simp at h2; omega)] at hO
        have y0 : Wd.Var wr w.heap.size 243 (.slice none 0 0) := (hB.block _ (by omega)).trans x0
        have hbn := hB0.trans (hB.mono (by omega))
        have Hb := Lib.hid hbn
        clear hB x0 hB0 hO0
        have c1 := y0.cell
        have f1 := y0.free
        by_cases hr0 : r = 0
        · subst hr0
          have hO2 := hO
          rw [show List.replicate n 18446744073709551615 = uptoW (cut k) by rw [Hn.out, ← HN.out]; exact upto_full Hr.out.symm] at hO2
          have HO := Lib.hid (hO2.other (b := w.heap.size) (u := .slice (some ⟨w.heap.size + 1, 0, none⟩) n n) (by omega))
          have c2 := (Wd.Var.set (u := .slice (some ⟨w.heap.size + 1, 0, none⟩) n n) y0).cell
          clear hO hO2
          go_wp2_with fail
          (try simp only [Exit.inBlock, Exit.then])
          refine bodyPost_ret (v := .agg #[.slice (some ⟨w.heap.size + 1, 0, none⟩) n n]) ?_ rfl ⟨_, _, _, rfl, ?_, ?_⟩
          · rw [res_cell1 rfl]; go_simp
          · exact HO.out.down (by omega)
          · exact Hb.out.setCell (Nat.le_refl _) _
        · obtain ⟨p, hp⟩ : ∃ p, p = N / 64 := ⟨_, rfl⟩
          have hnp : n = p + 1 := by have := Hn.out; have := Hr.out; omega
          have e3 : (n : Int) - 1 = (p : Int) := by omega
          have hr1 : (0 : Int) < (r : Int) := by omega
          have hr2 : r < 64 := by have := Hr.out; omega
          have hp0 : (0 : Int) ≤ (p : Int) := by omega
          have hpn : (p : Int) < (n : Int) := by omega
          obtain ⟨hc, hf⟩ := hO.cell (by simp) p (by simp; omega)
          have HO := Lib.hid hO
          have Hup := Lib.hid (show (List.replicate n 18446744073709551615).set p (2 ^ r - 1) = uptoW (cut k) by rw [hnp, Hr.out, ← HN.out]; exact upto_part (by have := Hr.out; omega) hp)
          clear hp hnp hO
          go_wp2_with fail
          have key : IntKind.u64.wrap (IntKind.u64.wrap (2 ^ r) - 1) = ((2 ^ r - 1 : Nat) : Int) := pow_pred hr2
          rw [key]
          have hO3 := HO.out.set (by simp) p (2 ^ r - 1)
          rw [Hup.out] at hO3
          have z0 := y0.other (a := ⟨w.heap.size + 1, p, none⟩) (u := .int .u64 ((2 ^ r - 1 : Nat) : Int)) (by show w.heap.size ≠ w.heap.size + 1; omega)
          have c2 := (Wd.Var.set (u := .slice (some ⟨w.heap.size + 1, 0, none⟩) n n) z0).cell
          have hb2 := Hb.out.setCell (p := ⟨w.heap.size + 1, p, none⟩) (by show w.heap.size ≤ w.heap.size + 1; omega) (.int .u64 ((2 ^ r - 1 : Nat) : Int))
          generalize wr.setCell ⟨w.heap.size + 1, p, none⟩ (.int .u64 ((2 ^ r - 1 : Nat) : Int)) = w5 at *
          (try simp only [Exit.inBlock, Exit.then])
          refine bodyPost_ret (v := .agg #[.slice (some ⟨w.heap.size + 1, 0, none⟩) n n]) ?_ rfl ⟨_, _, _, rfl, ?_, ?_⟩
          · rw [res_cell1 rfl]; go_simp
          · exact (hO3.other (by omega)).down (by omega)
          · exact hb2.setCell (Nat.le_refl _) _
theorem upto_any (k : Int) (w : World) (hk : I64 k) : Calls Tryz.prog 221 #[.int .i64 k] w (Gv St w (uptoL k)) :=
  (upto_own k w hk).mono fun e w' ⟨A, n, c, he, hO, hB⟩ => ⟨A, n, c, he, by
    have hc : cut k ≤ 65536 := by unfold cut; omega
    rw [← upto_lst hc rfl]
    exact st_at hO (upto_wo hc) (upto_tr _), hB⟩
end Bw
namespace Bw
open Bs Bx Bi
theorem take_ext {L M : List Nat} {q : Nat} (h1 : q < L.length) (h2 : q < M.length) (h : L.take q = M.take q) (e : L.getD q 0 = M.getD q 0) : L.take (q + 1) = M.take (q + 1) := by
  rw [List.take_succ_eq_append_getElem h1, List.take_succ_eq_append_getElem h2, h]
  rw [List.getD_eq_getElem?_getD, List.getD_eq_getElem?_getD, List.getElem?_eq_getElem h1, List.getElem?_eq_getElem h2] at e
  simp only [Option.getD_some] at e
  rw [e]
set_option maxHeartbeats 4000000 in
theorem equal_any (A B : Option Addr) (n c m d : Nat) (L M : List Nat) (r : Bool) (w : World) (hS : Wd.Sl w .u64 A n c (nat L)) (hT : Wd.Sl w .u64 B m d (nat M)) (hL : Wo L) (hM : Wo M) (hr : r = decide (L = M)) :
    Calls Tryz.prog 247 #[.slice A n c, .slice B m d] w fun e w' => e = .returned (.bool r) ∧ Below w.heap.size w w' := by
  have hn : n = L.length := by rw [hS.len, nat_len]
  have hm : m = M.length := by rw [hT.len, nat_len]
  have hn1 : n ≤ 1024 := by rw [hn]; exact hL.1
  have hm1 : m ≤ 1024 := by rw [hm]; exact hM.1
  have hcap := hS.cap
  have hmx := hS.max
  have hcap2 := hT.cap
  have hmx2 := hT.max
  unfold maxLen at hmx hmx2
  have HS := Lib.hid hS
  have HT := Lib.hid hT
  have Hn := Lib.hid hn
  have Hm := Lib.hid hm
  have Hr := Lib.hid hr
  clear hS hT hn hm hL hM hr
  by_cases hnm : n = m
  case neg =>
    have e := Lib.hid (show r = false by rw [Hr.out, decide_eq_false]; rintro rfl; exact hnm (Hn.out.trans Hm.out.symm))
    have hne : ((n : Int) == (m : Int)) = false := by simpa using fun h => hnm (by omega)
    go_enter Tryz.func247, Tryz.ntmps247
    go_wp2_with fail
    go_ret
    exact ⟨by rw [e.out]; rfl, Below.refl _ _⟩
  subst hnm
  go_enter Tryz.func247, Tryz.ntmps247
  go_wp2_with fail
  go_loopw [5, 13] (fun u j wr => ∃ q : Nat, j = .int .i64 q ∧ q ≤ n ∧ Hid (L.take q = M.take q) ∧ Below w.heap.size w wr) (fun _ j _ => n - (intOf j).toNat)
  case atStart => exact ⟨0, rfl, Nat.zero_le _, Lib.hid rfl, Below.refl _ _⟩
  case round =>
    obtain ⟨q, rfl, hk, he, hB⟩ := hrel
    by_cases hlt : q < n
    · have hkI : (q : Int) < n := by omega
      have hq0 : (0 : Int) ≤ (q : Int) := by omega
      have HqL := Lib.hid (show q < L.length by rw [← Hn.out]; exact hlt)
      have HqM := Lib.hid (show q < M.length by rw [← Hm.out]; exact hlt)
      obtain ⟨b1, o1, hA1, hb1, hc1⟩ := (HS.out.below hB).rd q (by rw [nat_len]; exact HqL.out)
      obtain ⟨b2, o2, hA2, hb2, hc2⟩ := (HT.out.below hB).rd q (by rw [nat_len]; exact HqM.out)
      subst hA1 hA2
      rw [nat_getD] at hc1 hc2
      obtain ⟨x, hx⟩ : ∃ x, x = L.getD q 0 := ⟨_, rfl⟩
      obtain ⟨y, hy⟩ : ∃ y, y = M.getD q 0 := ⟨_, rfl⟩
      rw [← hx] at hc1
      rw [← hy] at hc2
      have Hx := Lib.hid hx
      have Hy := Lib.hid hy
      have HB := Lib.hid hB
      clear hx hy hB
      by_cases hxy : x = y
      · subst hxy
        have hn := Lib.hid (take_ext HqL.out HqM.out he.out (Hx.out.symm.trans Hy.out))
        go_wp2_with fail
        go_quiet (fail)
        go_wp2_with fail
        go_roundw
        case rel => exact ⟨q + 1, by go_num, by omega, hn, Wd.below_drewN HB.out _⟩
        case measure => simp [intOf]; omega
      · have e := Lib.hid (show r = false by
          rw [Hr.out, decide_eq_false]
          intro h
          exact hxy (by rw [Hx.out, Hy.out, h]))
        have hne : ((x : Int) == (y : Int)) = false := by simpa using fun h => hxy (by omega)
        go_wp2_with fail
        go_quiet (fail)
        go_wp2_with fail
        go_ret
        exact ⟨by rw [e.out]; rfl, Wd.below_drewN HB.out _⟩
    · have hkI : ¬ (q : Int) < n := by omega
      have e := Lib.hid (show r = true by
        rw [Hr.out, decide_eq_true]
        have h := he.out
        rw [List.take_of_length_le (by rw [← Hn.out]; omega), List.take_of_length_le (by rw [← Hm.out]; omega)] at h
        exact h)
      go_wp2_with fail
      go_ret
      exact ⟨by rw [e.out]; rfl, hB⟩
set_option maxHeartbeats 4000000 in
theorem same_any (A : Option Addr) (n c : Nat) (X : List Int) (B : Option Addr) (m d : Nat) (Y : List Int) (w : World) (hX : St w A n c X) (hY : St w B m d Y) :
    Calls Tryz.prog 219 #[.agg #[.slice A n c], .agg #[.slice B m d]] w fun e w' => e = .returned (.bool (decide (X = Y))) ∧ Below w.heap.size w w' := by
  obtain ⟨L, hS, hL, tL, rfl⟩ := hX
  obtain ⟨M, hT, hM, tM, rfl⟩ := hY
  have hb0 := ((Below.refl w.heap.size w).alloc (Nat.le_refl _) (.cells #[.slice A n c] 243)).alloc (by simp) (.cells #[.slice B m d] 243)
  have x0 : Wd.Var ((w.alloc (.cells #[.slice A n c] 243)).alloc (.cells #[.slice B m d] 243)) w.heap.size 243 (.slice A n c) := (Wd.Var.new w _ _).alloc _
  have x1 : Wd.Var ((w.alloc (.cells #[.slice A n c] 243)).alloc (.cells #[.slice B m d] 243)) (w.heap.size + 1) 243 (.slice B m d) := by
    have := Wd.Var.new (w.alloc (.cells #[.slice A n c] 243)) 243 (.slice B m d)
    rwa [World.size_alloc] at this
  have c0 := x0.cell
  have c1 := x1.cell
  have C := Lib.hid (equal_any A B n c m d L M (decide (L = M)) _ (hS.below hb0) (hT.below hb0) hL hM rfl)
  have hr : decide (lstW L = lstW M) = decide (L = M) := decide_eq_decide.2 (same_lst hL hM tL tM)
  rw [hr]
  obtain ⟨r, hq⟩ : ∃ r, r = decide (L = M) := ⟨_, rfl⟩
  rw [← hq] at C ⊢
  clear hS hT hL hM tL tM x0 x1 hr hq
  go_enter Tryz.func219, Tryz.ntmps219
  go_wp2_with fail
  refine C.out.mono ?_
  rintro e w2 ⟨rfl, hB⟩
  have hb2 := hb0.trans (hB.mono (by simp; omega))
  go_wp2_with fail
  go_ret
  exact ⟨rfl, hb2⟩
end Bw
namespace Cx
open Va (Vl May ord null)
open Sc (tr tr_yes tr_no tr_iff)
open Co
open Bi (I64)
theorem cwidth_any (n : Nat) (hn : n ≤ 1000000) (w : World) :
    Calls Tryz.prog 166 #[.int .i64 (n : Int)] w fun e w' => e = .returned (.int .i64 (Bc.wid ((n : Int) - 1))) ∧ w' = w := by
  have C := Lib.hid (Bc.Width_any ((n : Int) - 1) w (by omega) (by omega))
  go_enter Tryz.func166, Tryz.ntmps166
  go_wp2_with fail
  refine C.out.mono ?_
  rintro e w' ⟨rfl, hq⟩
  have hq' := hq.symm
  clear hq
  subst hq'
  go_wp2_with fail
  go_ret
  exact ⟨rfl, rfl⟩
theorem areAll_any (A : Option Addr) (n c : Nat) (l : List Int) (k : Int) (w : World) (hS : Wd.Sl w .i64 A n c l) (hn : n ≤ 1000000) (hk : I64 k) :
    Calls Tryz.prog 183 #[.slice A n c, .int .i64 k] w fun e w' => e = .returned (.bool (decide (Bs.ofL l = Bs.uptoL k))) ∧ Below w.heap.size w w' := by
  have C1 := Lib.hid (Bw.of_any A n c l w hS hn)
  have C2 := Lib.hid fun w => Bw.upto_any k w hk
  clear hS
  go_enter Tryz.func183, Tryz.ntmps183
  go_wp2_with fail
  refine C1.out.mono ?_
  rintro e w1 ⟨A1, n1, c1, rfl, hS1, hB1⟩
  go_wp2_with fail
  refine (C2.out w1).mono ?_
  rintro e w2 ⟨A2, n2, c2, rfl, hS2, hB2⟩
  have C3 := Lib.hid (Bw.same_any A1 n1 c1 _ A2 n2 c2 _ w2 (by obtain ⟨L, h1, h2, h3, h4⟩ := hS1; exact ⟨L, h1.below hB2, h2, h3, h4⟩) hS2)
  have hb2 := hB1.trans (hB2.mono hB1.size)
  clear hS1 hS2 hB1 hB2
  go_wp2_with fail
  refine C3.out.mono ?_
  rintro e w3 ⟨rfl, hB3⟩
  go_wp2_with fail
  go_ret
  exact ⟨rfl, hb2.trans (hB3.mono hb2.size)⟩
set_option maxHeartbeats 8000000 in
theorem unpack_any (A : Option Addr) (n c : Nat) (B : Option Addr) (m d : Nat) (C : Col) (w : World) (h : Cl w A n c B m d C) (hn : n ≤ 1000) (hm : m ≤ 1000000) :
    Calls Tryz.prog 131 #[.agg #[.int .i64 C.n, .slice A n c, .slice B m d]] w (OutB w (nums C) (tr (Valid C))) := by
  have hb0 := (Below.refl w.heap.size w).alloc (Nat.le_refl _) (.cells #[.int .i64 C.n, .slice A n c, .slice B m d] 57)
  have x0 := Cb.new w C.n A n c B m d
  have h1 := h.below hb0
  have hcap := h.dict.cap
  have hmx := h.dict.max
  have hcap2 := h.ids.cap
  have hmx2 := h.ids.max
  unfold maxLen at hmx hmx2
  have n0 := h.n0
  have n1 := h.n1
  have hnl : n = C.dict.length := h.dict.len
  have hvi := valid_iff (C := C) (by omega)
  have C1 := Lib.hid (Dt.rises_any A n c C.dict _ h1.dict)
  have Cw := Lib.hid fun w => cwidth_any n (by omega) w
  have Cu := Lib.hid fun w' (hb : Below w.heap.size w w') => Bc.unpack_any B m d C.n (wdt C.dict) C.ids w' (h.ids.below hb) h.byt hm
  have Hb0 := Lib.hid hb0
  have Hn := Lib.hid hnl
  obtain ⟨r, hr⟩ : ∃ r, r = tr (Valid C) := ⟨_, rfl⟩
  obtain ⟨L, hL⟩ : ∃ L, L = nums C := ⟨_, rfl⟩
  rw [← hr, ← hL]
  have Hr := Lib.hid hr
  have HL := Lib.hid hL
  obtain ⟨rs, hrs⟩ : ∃ rs, rs = tr (Dc.Ris C.dict) := ⟨_, rfl⟩
  rw [← hrs] at C1
  have Hrs := Lib.hid hrs
  obtain ⟨W, hW⟩ : ∃ W, W = wdt C.dict := ⟨_, rfl⟩
  have HW := Lib.hid hW
  have e3 : Bc.wid ((n : Int) - 1) = W := by rw [hW, hnl]; rfl
  rw [e3] at Cw
  rw [← hW] at Cu
  obtain ⟨N, hN⟩ : ∃ N, N = C.n := ⟨_, rfl⟩
  rw [← hN] at x0 C1 Cu Hb0 n0 n1 ⊢
  have HN := Lib.hid hN
  obtain ⟨E, hE⟩ : ∃ E, E = Bc.unE C.ids N W := ⟨_, rfl⟩
  obtain ⟨U, hU⟩ : ∃ U, U = Bc.unL C.ids N W := ⟨_, rfl⟩
  rw [← hE, ← hU] at Cu
  have HE := Lib.hid (show E = Bc.unE C.ids C.n (wdt C.dict) by rw [hE, hN, hW])
  have HU := Lib.hid (show U = un C by rw [hU, hN, hW]; rfl)
  clear hE hU
  have bad : ¬ Valid C → Hid (r = false ∧ L = []) := fun q => Lib.hid ⟨by rw [Hr.out, tr_no q], by rw [HL.out, nums_no q]⟩
  have Bad := Lib.hid bad
  have Hvi := Lib.hid hvi
  clear h hb0 h1 hnl hr hL hrs hW e3 hN bad hvi
  have c0 := x0.c0
  have c1 := x0.c1
  have c2 := x0.c2
  go_enter Tryz.func131, Tryz.ntmps131
  go_wp2_with fail
  refine C1.out.mono ?_
  rintro e w1 ⟨rfl, hB1⟩
  have y0 := x0.below (by simp) hB1
  have c0' := y0.c0
  have c1' := y0.c1
  have c2' := y0.c2
  have HB1 := Lib.hid (Hb0.out.trans (hB1.mono (by simp)))
  clear c0 c1 c2 x0 hB1
  cases rs with
  | false =>
    have hq := (Bad.out fun q => by have := Hrs.out; rw [tr_yes q.ris] at this; cases this).out
    have HQ := Lib.hid hq
    clear hq
    go_wp2_with fail
    go_ret2
    exact ⟨_, _, _, by rw [HQ.out.1]; rfl, by rw [HQ.out.2]; exact Wd.Sl.none_ _ _, HB1.out⟩
  | true =>
  have hris := Lib.hid (show Dc.Ris C.dict from tr_iff.1 Hrs.out.symm)
  have Cv := Lib.hid fun w => ((Cw.out w).mono fun e w' h => ⟨h.1, by rw [h.2]; exact Below.refl _ _⟩ : Calls Tryz.prog 166 #[.int .i64 (n : Int)] w fun e w' => e = .returned (.int .i64 (W : Int)) ∧ Below w.heap.size w w')
  have hsw : w.heap.size < w1.heap.size := y0.lt
  go_wp2_with fail
  have hb := (Below.refl w1.heap.size w1).drew
  have z10 : w1.drew.cell? ⟨w.heap.size, 0, none⟩ = some (.int .i64 N) ∧ w1.drew.cell? ⟨w.heap.size, 1, none⟩ = some (.slice A n c) ∧ w1.drew.cell? ⟨w.heap.size, 2, none⟩ = some (.slice B m d) := ⟨c0', c1', c2'⟩
  go_region_held3 (fun w' => w'.cell? ⟨w.heap.size, 0, none⟩ = some (.int .i64 N) ∧ w'.cell? ⟨w.heap.size, 1, none⟩ = some (.slice A n c) ∧ w'.cell? ⟨w.heap.size, 2, none⟩ = some (.slice B m d)) (with_reducible first | exact z10) (first
    | (go_at_call 166; (with_reducible refine (Cv.out _).mono ?_); rintro e wz ⟨rfl, hBz⟩; have hb := hb.trans (hBz.mono hb.size); have y9 := y0.below hsw hb; have z10 := And.intro y9.c0 (And.intro y9.c1 y9.c2))
    | (go_at_call 182; refine (Cu.out _ (HB1.out.trans (hb.mono HB1.out.size))).mono ?_; rintro e wz ⟨P, p, q, rfl, hSu, hBz⟩; have hb := hb.trans (hBz.mono hb.size); have y9 := y0.below hsw hb; have z10 := And.intro y9.c0 (And.intro y9.c1 y9.c2)))
  have HBz := Lib.hid (HB1.out.trans (hb.mono HB1.out.size))
  have c1'' := z10.2.1
  clear z10 c0' c1' c2' Cu Cv Cw C1 hBz hb
  by_cases hE0 : E = 0
  case neg =>
    have hq := (Bad.out fun q => hE0 (HE.out.trans q.un0)).out
    have hd2 : (E == 0) = false := by simpa using hE0
    have HQ := Lib.hid hq
    clear hq
    go_wp2_with fail
    go_ret2
    exact ⟨_, _, _, by rw [HQ.out.1]; rfl, by rw [HQ.out.2]; exact Wd.Sl.none_ _ _, HBz.out⟩
  subst hE0
  have hUl := hSu.len
  have hUc := hSu.cap
  have hUm := hSu.max
  unfold maxLen at hUm
  have HSu := Lib.hid hSu
  have HUl := Lib.hid hUl
  have hp1 : p ≤ 4096 := by
    obtain ⟨N', W', e1, _, _, e2, _⟩ := Bc.unE_inv HE.out.symm
    have h1 := un_len HE.out.symm
    rw [← HU.out, ← HUl.out] at h1
    omega
  have Ca := Lib.hid (areAll_any P p q U (n : Int) wz hSu (by omega) ⟨by omega, by omega⟩)
  obtain ⟨ra, hra⟩ : ∃ ra, ra = decide (Bs.ofL U = Bs.uptoL (n : Int)) := ⟨_, rfl⟩
  rw [← hra] at Ca
  have Hra := Lib.hid hra
  clear hSu hUl hra
  cases ra with
  | false =>
    have hq := (Bad.out fun q => by
      have h1 := (Hvi.out.1 q).2.2
      rw [← HU.out, ← Hn.out] at h1
      have := Hra.out
      rw [decide_eq_true h1] at this
      cases this).out
    have HQ := Lib.hid hq
    clear hq
    go_wp2_with fail
    refine Ca.out.mono ?_
    rintro e w5 ⟨rfl, hB5⟩
    have HB5 := Lib.hid (HBz.out.trans (hB5.mono HBz.out.size))
    clear hB5
    go_wp2_with fail
    go_ret2
    exact ⟨_, _, _, by rw [HQ.out.1]; rfl, by rw [HQ.out.2]; exact Wd.Sl.none_ _ _, HB5.out⟩
  | true =>
    have hv : Valid C := Hvi.out.2 ⟨hris.out, HE.out.symm, by rw [← HU.out, ← Hn.out]; exact of_decide_eq_true Hra.out.symm⟩
    have HQ := Lib.hid (show r = true ∧ L = U from ⟨by rw [Hr.out, tr_yes hv], by rw [HL.out, nums_yes hv, HU.out]⟩)
    clear hv
    go_wp2_with fail
    refine Ca.out.mono ?_
    rintro e w5 ⟨rfl, hB5⟩
    have HB5 := Lib.hid (HBz.out.trans (hB5.mono HBz.out.size))
    have HS5 := Lib.hid (HSu.out.below hB5)
    clear hB5
    go_wp2_with fail
    go_ret2
    exact ⟨_, _, _, by rw [HQ.out.1]; rfl, by rw [HQ.out.2]; exact HS5.out, HB5.out⟩
set_option maxHeartbeats 4000000 in
theorem cmay_any (A : Option Addr) (n c : Nat) (B : Option Addr) (m d : Nat) (C : Col) (w : World) (h : Cl w A n c B m d C) (hn : n ≤ 1000) (hm : m ≤ 1000000) :
    Calls Tryz.prog 84 #[.agg #[.int .i64 C.n, .slice A n c, .slice B m d]] w fun e w' => e = .returned (.bool (tr (Valid C))) ∧ Below w.heap.size w w' := by
  have hb0 := (Below.refl w.heap.size w).alloc (Nat.le_refl _) (.cells #[.int .i64 C.n, .slice A n c, .slice B m d] 57)
  have x0 := Cb.new w C.n A n c B m d
  have C1 := Lib.hid (unpack_any A n c B m d C _ (h.below hb0) hn hm)
  have Hb0 := Lib.hid hb0
  obtain ⟨N, hN⟩ : ∃ N, N = C.n := ⟨_, rfl⟩
  rw [← hN] at x0 C1 Hb0 ⊢
  clear h hb0 hN
  have c0 := x0.c0
  have c1 := x0.c1
  have c2 := x0.c2
  go_enter Tryz.func84, Tryz.ntmps84
  go_wp2_with fail
  refine C1.out.mono ?_
  rintro e w1 ⟨P, p, q, rfl, hSl, hB1⟩
  have hb1 := Hb0.out.trans (hB1.mono (by simp))
  go_wp2_with fail
  go_ret
  exact ⟨rfl, hb1⟩
end Cx
namespace Cx
open Va (Vl null)
def fillV (l : List Vl) (k : Nat) : List Vl := l.take k ++ List.replicate (l.length - k) null
theorem fillV_zero (l : List Vl) : fillV l 0 = List.replicate l.length null := by simp [fillV]
theorem fillV_all (l : List Vl) : fillV l l.length = l := by simp [fillV]
theorem fillV_len (l : List Vl) (k : Nat) : (fillV l k).length = l.length := by simp [fillV]; omega
theorem fillV_set (l : List Vl) (k : Nat) (hk : k < l.length) : (fillV l k).set k (l.getD k default) = fillV l (k + 1) := by
  refine List.ext_getElem (by simp [fillV_len]) fun i h1 h2 => ?_
  simp only [fillV_len, List.length_set] at h1 h2
  rw [List.getElem_set]
  simp only [fillV, List.getElem_append, List.length_take, List.getElem_take, List.getElem_replicate]
  by_cases e : k = i
  · subst e
    rw [if_pos rfl, dif_pos (by omega)]
    simp [List.getD, hk]
  · rw [if_neg e]
    by_cases q : i < min k l.length
    · rw [dif_pos q, dif_pos (by omega)]
    · rw [dif_neg q, dif_neg (by omega)]
end Cx
namespace Bc
theorem toD_next (wd k : Nat) (v : Int) : Bt.toD wd (k + 1) v = Bt.toD wd k v ++ [Bt.dig wd v k] := by
  rw [Bt.toD_add]
  congr 1
  simp [Bt.toD, Bt.dig]
end Bc
end Go.Proofs.YtaoeipehpakngaaGreatDoor
