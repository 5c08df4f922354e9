/- What the functions of package runs that read do where they read what was written: getPlain, getDeltas, getRun, getRuns; bytes.Equal of two slices that hold the same. -/
import Derived.Test.YtejhnmahmnbmkaaRunNums
import Derived.Test.YtejhnmahmnbmkaaNumGet
import Derived.Test.YtejhnmahmnbmkaaNumRead
import Derived.Laws.BytesArg
namespace Go.Proofs.Ytejhnmahmnbmkaa
open Go.RowKit
namespace Rc
open Nc Lw

theorem equal_same (A B : Option Addr) (n c d : Nat) (xs : List Int) (w : World) (hA : Wd.Sl w .u8 A n c xs) (hB : Wd.Sl w .u8 B n d xs) (h0 : 0 < n) :
    Calls Try.prog 34 #[.slice A n c, .slice B n d] w fun e w' => e = .returned (.bool true) ∧ w = w' := by
  have hl := hA.len
  obtain ⟨b1, o1, rfl, _, h1⟩ := hA.rd.some_ (by omega)
  obtain ⟨b2, o2, rfl, _, h2⟩ := hB.rd.some_ (by omega)
  have k1 := run_convert_bytes_arg (P := Try.prog) w 33 5 Try.underlying33 Try.underlying5 b1 o1 n c xs hl.symm (by rw [hl]; exact h1) 9 Try.underlying9
  have k2 := run_convert_bytes_arg (P := Try.prog) w 33 5 Try.underlying33 Try.underlying5 b2 o2 n d xs hl.symm (by rw [hl]; exact h2) 9 Try.underlying9
  generalize strOfNums xs = s at *
  clear h1 h2 hA hB hl
  go_enter Try.func34, Try.ntmps34
  go_wp2_with fail
  go_ret
  exact ⟨by simp, rfl⟩

set_option maxHeartbeats 1000000 in
theorem getPlain_any (A : Option Addr) (n c : Nat) (zs more : List Int) (N : Nat) (w : World) (hS : Wd.Sl w .u8 A n c (Rn.plain zs ++ more)) (hby : Nm.Byt (Rn.plain zs ++ more)) (hN : N = zs.length) (hN2 : N ≤ 100000) (hF : Rn.Fits zs) :
    Calls Try.prog 40 #[.slice A n c, .int .i64 N] w (Wd.Out3 w zs (Rn.plain zs).length 0) := by
  obtain ⟨i0, hi, hz0, hz1, hz2⟩ := info_parts info_int
  have HN := Lib.hid hN
  have HF := Lib.hid hF
  have Hby := Lib.hid hby
  have hnl : (Rn.plain zs).length ≤ n := by rw [hS.len, List.length_append]; omega
  have hpl : (Rn.plain zs).length ≤ 1000000 := by have := (Rn.plain_len zs).2; omega
  have hcap := hS.cap
  have hmax := hS.max
  unfold maxLen at hmax
  clear hN hF hby
  go_enter Try.func40, Try.ntmps40
  go_wp2_with (at_make; refine wpList_make_own _ rfl (.const (.int .i64 0)) (.tmp 12) 22 rfl w.heap.size 3 i0 _ 1 Try.underlying22 hi hz0 hz1 .i64 .i64 N N rfl rfl rfl (by rw [hz2]; omega) (by unfold maxLen; omega) (Nat.le_refl _) ?_; intro w3 hown hgrow)
  have hb3 := (Below.refl w.heap.size w).grown hgrow (Nat.le_refl _) (by simp)
  clear hgrow
  go_loopw [7, 8, 15] (fun v p i wr => ∃ (k L : Nat) (ys : List Int), i = .int .i64 k ∧ k ≤ N ∧ p = .int .i64 L ∧ Hid (L = (Rn.plain (zs.take k)).length ∧ ys = zs.take k) ∧ wr.ownsRow w.heap.size 3 1 v ys.length (ys.map (Value.int .i64)) ∧ Below w.heap.size w wr) (fun _ _ i _ => N - (intOf i).toNat)
  case atStart => exact ⟨0, 0, [], rfl, Nat.zero_le _, rfl, Lib.hid ⟨rfl, rfl⟩, hown, hb3⟩
  case round =>
    clear hown hb3
    obtain ⟨k, L, ys, rfl, hk, rfl, hLy, hown, hB⟩ := hrel
    have hsz := hB.size
    by_cases hlt : k < N
    · obtain ⟨x, d, hx1, hx2, hL2, hd1, hd2, hc1, hyl, hst⟩ : ∃ (x : Int) (d : Nat), -9223372036854775808 ≤ x ∧ x ≤ 9223372036854775807 ∧ L + d ≤ (Rn.plain zs).length ∧ 1 ≤ d ∧ d ≤ 10 ∧
          Calls Try.prog 49 #[.slice (A.map (·.add L)) (n - L) (c - L)] wr (fun e w' => e = .returned (three .i64 (x, (d : Int), 0)) ∧ wr = w') ∧ ys.length ≤ 100000 ∧
          (L + d = (Rn.plain (zs.take (k + 1))).length ∧ ys ++ [x] = zs.take (k + 1)) := by
        obtain ⟨rfl, rfl⟩ := hLy.out
        have hkl : k < zs.length := by rw [← HN.out]; exact hlt
        have hx := Wd.fit_get HF.out k hkl
        have hnx := Rn.plain_next zs k hkl
        have hL2 : (Rn.plain (zs.take (k + 1))).length ≤ (Rn.plain zs).length := by
          have h := congrArg List.length (congrArg Rn.plain (List.take_append_drop (k + 1) zs))
          rw [Rn.plain_app, List.length_append] at h
          omega
        have hc1 := get_any _ _ _ _ wr ((hS.below hB).cut (Rn.plain (zs.take k)).length (by rw [hnx, List.length_append] at hL2; omega)) (fun y hy => Hby.out y (List.mem_of_mem_drop hy))
        rw [Rn.plain_drop zs k hkl more, getI_vd _ _ hx.1 hx.2] at hc1
        have hlen := congrArg List.length hnx
        rw [List.length_append] at hlen
        have hv := Nm.vd_len (Nm.zz (zs.getD k 0))
        rw [if_neg (by omega)] at hc1
        exact ⟨zs.getD k 0, (Nm.vd (Nm.zz (zs.getD k 0))).length, hx.1, hx.2, by omega, hv.1, hv.2, hc1, by rw [List.length_take]; omega, hlen.symm, (Rn.take_next zs k 0 hkl).symm⟩
      have Hc1 := Lib.hid hc1
      have Hst := Lib.hid hst
      obtain ⟨wo, rfl⟩ : ∃ wo : World, wo = wr := ⟨_, rfl⟩
      clear hc1 hst
      go_wp2_with fail
      refine Hc1.out.mono ?_
      rintro e w2 ⟨rfl, rfl⟩
      unfold three
      go_wp2_with (at_builtin; refine Wd.wpList_app _ rfl (.tmp 28) (.tmp 30) 22 rfl w.heap.size 3 i0 _ .i64 8 Try.underlying22 hi hz0 hz1 hz2 rfl _ ys rfl (hown.alloc _) (wo.heap.size + 1) _ 1 1 [x] rfl rfl (by simp) (Wd.Rd.lit wo .i64 [x] _ _ rfl) (by simp; omega) (by simp [maxLen]; omega) (by simp; omega) ?_; intro v' w1 hown1 hg1)
      go_roundw
      case rel => exact ⟨k + 1, L + d, ys ++ [x], by go_num, by omega, by go_num, Lib.hid Hst.out, hown1, (hB.alloc hsz _).grown hg1 (by simp; omega) (fun g hg => (hown.lt g hg).1)⟩
      case measure => simp [intOf]; omega
    · go_wp2_with fail
      go_ret3
      obtain ⟨rfl, rfl⟩ := hLy.out
      have e : zs.take k = zs := List.take_of_length_le (by have := HN.out; omega)
      rw [e] at hown ⊢
      obtain ⟨A', n', c', rfl, hS'⟩ := Wd.Sl.of_own hown
      exact ⟨A', n', c', rfl, hS', hB⟩

theorem getDeltas_any (A : Option Addr) (n c : Nat) (zs more : List Int) (N : Nat) (w : World) (hS : Wd.Sl w .u8 A n c (Rn.plain (Rn.deltas zs) ++ more)) (hby : Nm.Byt (Rn.plain (Rn.deltas zs) ++ more)) (hN : N = zs.length) (hN2 : N ≤ 100000) (hF : Rn.Fits zs) :
    Calls Try.prog 44 #[.slice A n c, .int .i64 N] w (Wd.Out3 w zs (Rn.plain (Rn.deltas zs)).length 0) := by
  have hdf := Rn.deltas_fits zs
  have hdl := Rn.deltas_len zs
  have hsd := Rn.sums_deltas zs hF
  have c1 := getPlain_any A n c (Rn.deltas zs) more N w hS hby (by omega) hN2 hdf
  have c2 := fun A n c w hS hm => sums_any A n c (Rn.deltas zs) w hS hm
  rw [hsd] at c2
  have hd2 : (Rn.deltas zs).length ≤ 1000000 := by omega
  have hpl : (Rn.plain (Rn.deltas zs)).length ≤ 1000000 := by have := (Rn.plain_len (Rn.deltas zs)).2; omega
  generalize (Rn.plain (Rn.deltas zs)).length = L at *
  generalize Rn.deltas zs = d at *
  have C1 := Lib.hid c1
  have C2 := Lib.hid c2
  clear c1 c2 hdf hdl hsd hby hS hN
  go_enter Try.func44, Try.ntmps44
  go_wp2_with fail
  refine C1.out.mono ?_
  rintro e w1 ⟨A1, n1, c1, rfl, hS1, hB1⟩
  have hn1 : n1 ≤ 1000000 := by rw [hS1.len]; exact hd2
  go_wp2_with fail
  refine (C2.out A1 n1 c1 w1 hS1 hn1).mono ?_
  rintro e w2 ⟨A2, n2, c2, rfl, hS2, hB2⟩
  go_wp2_with fail
  go_ret3
  exact ⟨A2, n2, c2, rfl, hS2, hB1.trans (hB2.mono hB1.size)⟩

set_option maxHeartbeats 1000000 in
theorem getRun_any (A : Option Addr) (n c : Nat) (v k : Int) (more : List Int) (w : World) (hS : Wd.Sl w .u8 A n c (Nm.vd (Nm.zz v) ++ (Nm.vd k ++ more))) (hby : Nm.Byt (Nm.vd (Nm.zz v) ++ (Nm.vd k ++ more))) (hv : Rn.Fit v) (h0 : 0 ≤ k) (h1 : k ≤ 9223372036854775807) :
    Calls Try.prog 50 #[.slice A n c] w fun e w' => e = .returned (.tuple #[.agg #[.int .i64 v, .int .i64 k], .int .i64 ((Nm.vd (Nm.zz v)).length + (Nm.vd k).length : Nat), .int .i64 0]) ∧ Below w.heap.size w w' := by
  have hg := getI_vd v (Nm.vd k ++ more) hv.1 hv.2
  have hg2 := getL_vd k more h0 h1
  have c1 := fun w hS => get_any A n c _ w hS hby
  rw [hg] at c1
  have hnl : (Nm.vd (Nm.zz v)).length + (Nm.vd k).length ≤ n := by rw [hS.len, List.length_append, List.length_append]; omega
  have hl1 := Nm.vd_len (Nm.zz v)
  have hl2 := Nm.vd_len k
  have c2 := fun (w' : World) (hb : Below w.heap.size w w') => getLen_any _ _ _ _ w' ((hS.below hb).cut (Nm.vd (Nm.zz v)).length (by omega)) (fun y hy => hby y (List.mem_of_mem_drop hy))
  rw [List.drop_left, hg2] at c2
  have hcap := hS.cap
  have hmax := hS.max
  unfold maxLen at hmax
  rw [if_neg (show ¬ c = (Nm.vd (Nm.zz v)).length by omega)] at c2
  generalize (Nm.vd (Nm.zz v)).length = L at *
  generalize (Nm.vd k).length = M at *
  have C1 := Lib.hid c1
  have C2 := Lib.hid c2
  have HS := Lib.hid hS
  clear c1 c2 hg hg2 hby hS
  have hb0 : Below w.heap.size w (w.alloc (.cells #[.int .i64 0, .int .i64 0] 44)) := (Below.refl _ _).alloc (Nat.le_refl _) _
  go_enter Try.func50, Try.ntmps50
  go_wp2_with fail
  refine (C1.out _ (HS.out.below hb0)).mono ?_
  rintro e w1 ⟨rfl, rfl⟩
  unfold three
  go_wp2_with fail
  refine (C2.out _ hb0).mono ?_
  rintro e w1 ⟨rfl, rfl⟩
  unfold three
  go_wp2_with fail
  refine bodyPost_ret (v := .tuple #[.agg #[.int .i64 v, .int .i64 k], .int .i64 ((L : Int) + (M : Int)), .int .i64 0]) (by simp [results, Try.results50, go_sem]) rfl ⟨by go_num, ?_⟩
  exact (Below.refl _ _).alloc (Nat.le_refl _) _

set_option maxHeartbeats 1000000 in
theorem getRuns_any (A : Option Addr) (n c : Nat) (rs : Rn.Rs) (more : List Int) (N : Nat) (w : World) (hS : Wd.Sl w .u8 A n c (Rn.runB rs ++ more)) (hby : Nm.Byt (Rn.runB rs ++ more)) (hN : N = (Rn.flat rs).length) (hN2 : N ≤ 4096) (hF : Rn.FitR rs) (hrl : rs.length ≤ 4096) :
    Calls Try.prog 42 #[.slice A n c, .int .i64 N] w (Wd.Out3 w (Rn.flat rs) (Rn.runB rs).length 0) := by
  obtain ⟨i0, hi, hz0, hz1, hz2⟩ := info_parts info_int
  have HN := Lib.hid hN
  have HF := Lib.hid hF
  have Hby := Lib.hid hby
  have hnl : (Rn.runB rs).length ≤ n := by rw [hS.len, List.length_append]; omega
  have hpl : (Rn.runB rs).length ≤ 1000000 := by have := Rn.runB_len rs; omega
  have hcap := hS.cap
  have hmax := hS.max
  unfold maxLen at hmax
  clear hN hF hby
  go_enter Try.func42, Try.ntmps42
  go_wp2_with (at_make; refine wpList_make_own _ rfl (.const (.int .i64 0)) (.tmp 12) 22 rfl w.heap.size 3 i0 _ 1 Try.underlying22 hi hz0 hz1 .i64 .i64 N N rfl rfl rfl (by rw [hz2]; omega) (by unfold maxLen; omega) (Nat.le_refl _) ?_; intro w3 hown hgrow)
  have hb3 := (Below.refl w.heap.size w).grown hgrow (Nat.le_refl _) (by simp)
  clear hgrow
  go_loopw [7, 8] (fun v p wr => ∃ (k L t : Nat) (B' : Option Addr) (c' : Nat) (ys : List Int), v = .slice B' t c' ∧ p = .int .i64 L ∧ Hid (k ≤ rs.length ∧ L = (Rn.runB (rs.take k)).length ∧ ys = Rn.flat (rs.take k) ∧ t = ys.length) ∧ t ≤ N ∧ wr.ownsRow w.heap.size 3 1 (.slice B' t c') ys.length (ys.map (Value.int .i64)) ∧ Below w.heap.size w wr) (fun v _ _ => N - Wd.lenOf v)
  case atStart => exact ⟨0, 0, 0, _, _, [], rfl, rfl, Lib.hid ⟨Nat.zero_le _, rfl, rfl, rfl⟩, Nat.zero_le _, hown, hb3⟩
  case round =>
    clear hown hb3
    obtain ⟨k, L, t, B', c', ys, rfl, rfl, hLy, htN, hown, hB⟩ := hrel
    have hsz := hB.size
    by_cases hlt : t < N
    · obtain ⟨x, q, d, hx, hq1, hq2, hL2, hd1, hd2, hc1, hst⟩ : ∃ (x q : Int) (d : Nat), Rn.Fit x ∧ 1 ≤ q ∧ q ≤ (N : Int) - (t : Int) ∧ L + d ≤ (Rn.runB rs).length ∧ 1 ≤ d ∧ d ≤ 20 ∧
          Calls Try.prog 50 #[.slice (A.map (·.add L)) (n - L) (c - L)] wr (fun e w' => e = .returned (.tuple #[.agg #[.int .i64 x, .int .i64 q], .int .i64 (d : Int), .int .i64 0]) ∧ Below wr.heap.size wr w') ∧
          (k + 1 ≤ rs.length ∧ L + d = (Rn.runB (rs.take (k + 1))).length ∧ ys ++ List.replicate q.toNat x = Rn.flat (rs.take (k + 1)) ∧ t + q.toNat = (ys ++ List.replicate q.toNat x).length) := by
        obtain ⟨hk, rfl, rfl, rfl⟩ := hLy.out
        have hkl : k < rs.length := by
          rcases Nat.lt_or_ge k rs.length with h | h
          · exact h
          · exfalso
            rw [List.take_of_length_le h, ← HN.out] at hlt
            omega
        have hm := HF.out (rs.getD k (0, 0)) (by simp [List.getD, hkl])
        have hnx := Rn.runB_next rs k hkl
        have hfx := Rn.flat_next rs k hkl
        have hL2 : (Rn.runB (rs.take (k + 1))).length ≤ (Rn.runB rs).length := by
          have h := congrArg List.length (congrArg Rn.runB (List.take_append_drop (k + 1) rs))
          rw [Rn.runB_app, List.length_append] at h
          omega
        have hfl := Rn.flat_take_len rs (k + 1)
        have hlen := congrArg List.length hnx
        rw [List.length_append, List.length_append] at hlen
        have hflen := congrArg List.length hfx
        rw [List.length_append, List.length_replicate] at hflen
        have v1 := Nm.vd_len (Nm.zz (rs.getD k (0, 0)).1)
        have v2 := Nm.vd_len (rs.getD k (0, 0)).2
        have hcut := (hS.below hB).cut (Rn.runB (rs.take k)).length (by omega)
        rw [if_neg (by omega), Rn.runB_drop rs k hkl more] at hcut
        have hb2 : Nm.Byt (Nm.vd (Nm.zz (rs.getD k (0, 0)).1) ++ (Nm.vd (rs.getD k (0, 0)).2 ++ (Rn.runB (rs.drop (k + 1)) ++ more))) := by
          rw [← Rn.runB_drop rs k hkl more]
          exact fun y hy => Hby.out y (List.mem_of_mem_drop hy)
        have hc1 := getRun_any _ _ _ _ _ _ wr hcut hb2 hm.1 (by omega) (by omega)
        exact ⟨(rs.getD k (0, 0)).1, (rs.getD k (0, 0)).2, _, hm.1, hm.2.1, by rw [HN.out]; omega, by omega, by omega, by omega, hc1, hkl, by omega, hfx.symm, by rw [List.length_append, List.length_replicate]⟩
      have Hc1 := Lib.hid hc1
      have Hst := Lib.hid hst
      have hyl : ys.length ≤ 100000 := by have := hLy.out.2.2.2; omega
      obtain ⟨wo, rfl⟩ : ∃ wo : World, wo = wr := ⟨_, rfl⟩
      have hq0 : (q == 0) = false := by rw [beq_eq_false_iff_ne]; omega
      clear hc1 hst
      go_wp2_with fail
      refine Hc1.out.mono ?_
      rintro e w2 ⟨rfl, hB2⟩
      have hown2 := Wd.own_below hown hB2
      have hW2 : Below w.heap.size w w2 := hB.trans (hB2.mono hsz)
      have hsz2 := hW2.size
      clear hB2 hown hB
      go_wp2_with fail
      refine (appendRun_any w.heap.size _ ys x q _ (hown2.alloc _) (by simp; omega) hyl (by omega) (by omega)).mono ?_
      rintro e w4 ⟨v4, rfl, hown4, hB4⟩
      have hW4 : Below w.heap.size w w4 := (hW2.alloc hsz2 _).trans hB4
      obtain ⟨B4, c4, rfl⟩ := Wd.own_slice hown4 Hst.out.2.2.2.symm
      go_wp2_with fail
      go_roundw
      case rel => exact ⟨k + 1, L + d, t + q.toNat, B4, c4, _, rfl, by go_num, Lib.hid Hst.out, by omega, hown4, hW4⟩
      case measure => simp [Wd.lenOf]; omega
    · go_wp2_with fail
      go_ret3
      obtain ⟨hk, rfl, rfl, rfl⟩ := hLy.out
      have hkl : k = rs.length := by
        rcases Nat.lt_or_ge k rs.length with h | h
        · exfalso
          have hm := HF.out (rs.getD k (0, 0)) (by simp [List.getD, h])
          have h1 := congrArg List.length (Rn.flat_next rs k h)
          rw [List.length_append, List.length_replicate] at h1
          have h2 := Rn.flat_take_len rs (k + 1)
          rw [← HN.out] at h2
          omega
        · omega
      have e : rs.take k = rs := List.take_of_length_le (by omega)
      rw [e] at hown ⊢
      obtain ⟨A', n', c2, e2, hS'⟩ := Wd.Sl.of_own hown
      cases e2
      exact ⟨_, _, _, rfl, hS', hB⟩
end Rc
end Go.Proofs.Ytejhnmahmnbmkaa
