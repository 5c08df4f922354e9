/- What the functions of package runs that read do where they read what was written: getPlain, getDeltas, getRun, getRuns; bytes.Equal of two slices that hold the same. What runs.Decode does with what Encode has written, whatever stands behind: readBlock, Decode. Package file: the offsets of a and what goes with it. -/
import Derived.Laws.BytesArg
import Derived.Test.YtaoeipehpakngaaGreatDoorPa26
import Derived.Test.YtaoeipehpakngaaGreatDoorPa25
import Derived.Test.YtaoeipehpakngaaGreatDoorPa02
import Derived.Test.YtaoeipehpakngaaGreatDoorPa27
namespace Go.Proofs.YtaoeipehpakngaaGreatDoor
set_option maxRecDepth 20000
open Go.RowKit
namespace Rc
open Nc Lw
theorem equal_same (A B : Option Addr) (n c d : Nat) (xs : List Int) (w : World) (hA : Wd.Sl w .u8 A n c xs) (hB : Wd.Sl w .u8 B n d xs) (h0 : 0 < n) :
    Calls Tryz.prog 162 #[.slice A n c, .slice B n d] w fun e w' => e = .returned (.bool true) ∧ w = w' := by
  have hl := hA.len
  obtain ⟨b1, o1, rfl, _, h1⟩ := hA.rd.some_ (by omega)
  obtain ⟨b2, o2, rfl, _, h2⟩ := hB.rd.some_ (by omega)
  have k1 := run_convert_bytes_arg (P := Tryz.prog) w 32 5 Tryz.underlying32 Tryz.underlying5 b1 o1 n c xs hl.symm (by rw [hl]; exact h1) 9 Tryz.underlying9
  have k2 := run_convert_bytes_arg (P := Tryz.prog) w 32 5 Tryz.underlying32 Tryz.underlying5 b2 o2 n d xs hl.symm (by rw [hl]; exact h2) 9 Tryz.underlying9
  generalize strOfNums xs = s at *
  clear h1 h2 hA hB hl
  go_enter Tryz.func162, Tryz.ntmps162
  go_wp2_with fail
  go_ret
  exact ⟨by simp, rfl⟩
set_option maxHeartbeats 1000000 in
theorem getPlain_any (A : Option Addr) (n c : Nat) (zs more : List Int) (N : Nat) (w : World) (hS : Wd.Sl w .u8 A n c (Rn.plain zs ++ more)) (hby : Nm.Byt (Rn.plain zs ++ more)) (hN : N = zs.length) (hN2 : N ≤ 100000) (hF : Rn.Fits zs) :
    Calls Tryz.prog 144 #[.slice A n c, .int .i64 N] w (Wd.Out3N w zs (Rn.plain zs).length 0) := by
  obtain ⟨i0, hi, hz0, hz1, hz2⟩ := info_parts info_int
  have HN := Lib.hid hN
  have HF := Lib.hid hF
  have Hby := Lib.hid hby
  have hnl : (Rn.plain zs).length ≤ n := by rw [hS.len, List.length_append]; omega
  have hpl : (Rn.plain zs).length ≤ 1000000 := by have := (Rn.plain_len zs).2; omega
  have hcap := hS.cap
  have hmax := hS.max
  unfold maxLen at hmax
  clear hN hF hby
  go_enter Tryz.func144, Tryz.ntmps144
  go_wp2_with (at_make; refine wpList_make_own _ rfl (.const (.int .i64 0)) (.tmp 12) 25 rfl w.heap.size 3 i0 _ 1 Tryz.underlying25 hi hz0 hz1 .i64 .i64 N N rfl rfl rfl (by rw [hz2]; omega) (by unfold maxLen; omega) (Nat.le_refl _) ?_; intro w3 hown hgrow)
  have hb3 := (Below.refl w.heap.size w).grown hgrow (Nat.le_refl _) (by simp)
  clear hgrow
  go_loopw [7, 8, 15] (fun v p i wr => ∃ (k L : Nat) (ys : List Int), i = .int .i64 k ∧ k ≤ N ∧ p = .int .i64 L ∧ Hid (L = (Rn.plain (zs.take k)).length ∧ ys = zs.take k) ∧ wr.ownsRow w.heap.size 3 1 v ys.length (ys.map (Value.int .i64)) ∧ Below w.heap.size w wr) (fun _ _ i _ => N - (intOf i).toNat)
  case atStart => exact ⟨0, 0, [], rfl, Nat.zero_le _, rfl, Lib.hid ⟨rfl, rfl⟩, hown, hb3⟩
  case round =>
    clear hown hb3
    obtain ⟨k, L, ys, rfl, hk, rfl, hLy, hown, hB⟩ := hrel
    have hsz := hB.size
    by_cases hlt : k < N
    · obtain ⟨x, d, hx1, hx2, hL2, hd1, hd2, hc1, hyl, hst⟩ : ∃ (x : Int) (d : Nat), -9223372036854775808 ≤ x ∧ x ≤ 9223372036854775807 ∧ L + d ≤ (Rn.plain zs).length ∧ 1 ≤ d ∧ d ≤ 10 ∧
          Calls Tryz.prog 193 #[.slice (A.map (·.add L)) (n - L) (c - L)] wr (fun e w' => e = .returned (three .i64 (x, (d : Int), 0)) ∧ wr = w') ∧ ys.length ≤ 100000 ∧
          (L + d = (Rn.plain (zs.take (k + 1))).length ∧ ys ++ [x] = zs.take (k + 1)) := by
        obtain ⟨rfl, rfl⟩ := hLy.out
        have hkl : k < zs.length := by rw [← HN.out]; exact hlt
        have hx := Wd.fit_get HF.out k hkl
        have hnx := Rn.plain_next zs k hkl
        have hL2 : (Rn.plain (zs.take (k + 1))).length ≤ (Rn.plain zs).length := by
          have h := congrArg List.length (congrArg Rn.plain (List.take_append_drop (k + 1) zs))
          rw [Rn.plain_app, List.length_append] at h
          omega
        have hc1 := get_any _ _ _ _ wr ((hS.below hB).cut (Rn.plain (zs.take k)).length (by rw [hnx, List.length_append] at hL2; omega)) (fun y hy => Hby.out y (List.mem_of_mem_drop hy))
        rw [Rn.plain_drop zs k hkl more, getI_vd _ _ hx.1 hx.2] at hc1
        have hlen := congrArg List.length hnx
        rw [List.length_append] at hlen
        have hv := Nm.vd_len (Nm.zz (zs.getD k 0))
        rw [if_neg (by omega)] at hc1
        exact ⟨zs.getD k 0, (Nm.vd (Nm.zz (zs.getD k 0))).length, hx.1, hx.2, by omega, hv.1, hv.2, hc1, by rw [List.length_take]; omega, hlen.symm, (Rn.take_next zs k 0 hkl).symm⟩
      have Hc1 := Lib.hid hc1
      have Hst := Lib.hid hst
      obtain ⟨wo, rfl⟩ : ∃ wo : World, wo = wr := ⟨_, rfl⟩
      clear hc1 hst
      go_wp2_with fail
      refine Hc1.out.mono ?_
      rintro e w2 ⟨rfl, rfl⟩
      unfold three
      go_wp2_with (at_builtin; refine Wd.wpList_app _ rfl (.tmp 28) (.tmp 30) 25 rfl w.heap.size 3 i0 _ .i64 8 Tryz.underlying25 hi hz0 hz1 hz2 rfl _ ys rfl (hown.alloc _) (wo.heap.size + 1) _ 1 1 [x] rfl rfl (by simp) (Wd.Rd.lit wo .i64 [x] _ _ rfl) (by simp; omega) (by simp [maxLen]; omega) (by simp; omega) ?_; intro v' w1 hown1 hg1)
      go_roundw
      case rel => exact ⟨k + 1, L + d, ys ++ [x], by go_num, by omega, by go_num, Lib.hid Hst.out, hown1, (hB.alloc hsz _).grown hg1 (by simp; omega) (fun g hg => (hown.lt g hg).1)⟩
      case measure => simp [intOf]; omega
    · go_wp2_with fail
      go_ret3
      obtain ⟨rfl, rfl⟩ := hLy.out
      have e : zs.take k = zs := List.take_of_length_le (by have := HN.out; omega)
      rw [e] at hown ⊢
      obtain ⟨A', n', c', rfl, hS'⟩ := Wd.Sl.of_own hown
      exact ⟨A', n', c', rfl, ⟨hS', Wd.own_ge hown⟩, hB⟩
theorem getDeltas_any (A : Option Addr) (n c : Nat) (zs more : List Int) (N : Nat) (w : World) (hS : Wd.Sl w .u8 A n c (Rn.plain (Rn.deltas zs) ++ more)) (hby : Nm.Byt (Rn.plain (Rn.deltas zs) ++ more)) (hN : N = zs.length) (hN2 : N ≤ 100000) (hF : Rn.Fits zs) :
    Calls Tryz.prog 148 #[.slice A n c, .int .i64 N] w (Wd.Out3N w zs (Rn.plain (Rn.deltas zs)).length 0) := by
  have hdf := Rn.deltas_fits zs
  have hdl := Rn.deltas_len zs
  have hsd := Rn.sums_deltas zs hF
  have c1 := getPlain_any A n c (Rn.deltas zs) more N w hS hby (by omega) hN2 hdf
  have c2 := fun A n c w hS hm => sums_new A n c (Rn.deltas zs) w hS hm
  rw [hsd] at c2
  have hd2 : (Rn.deltas zs).length ≤ 1000000 := by omega
  have hpl : (Rn.plain (Rn.deltas zs)).length ≤ 1000000 := by have := (Rn.plain_len (Rn.deltas zs)).2; omega
  generalize (Rn.plain (Rn.deltas zs)).length = L at *
  generalize Rn.deltas zs = d at *
  have C1 := Lib.hid c1
  have C2 := Lib.hid c2
  clear c1 c2 hdf hdl hsd hby hS hN
  go_enter Tryz.func148, Tryz.ntmps148
  go_wp2_with fail
  refine C1.out.mono ?_
  rintro e w1 ⟨A1, n1, c1, rfl, hS1, hB1⟩
  have hn1 : n1 ≤ 1000000 := by rw [hS1.1.len]; exact hd2
  go_wp2_with fail
  refine (C2.out A1 n1 c1 w1 hS1.1 hn1).mono ?_
  rintro e w2 ⟨A2, n2, c2, rfl, hS2, hB2⟩
  go_wp2_with fail
  go_ret3
  exact ⟨A2, n2, c2, rfl, hS2.up hB1.size, hB1.trans (hB2.mono hB1.size)⟩
set_option maxHeartbeats 1000000 in
theorem getRun_any (A : Option Addr) (n c : Nat) (v k : Int) (more : List Int) (w : World) (hS : Wd.Sl w .u8 A n c (Nm.vd (Nm.zz v) ++ (Nm.vd k ++ more))) (hby : Nm.Byt (Nm.vd (Nm.zz v) ++ (Nm.vd k ++ more))) (hv : Rn.Fit v) (h0 : 0 ≤ k) (h1 : k ≤ 9223372036854775807) :
    Calls Tryz.prog 195 #[.slice A n c] w fun e w' => e = .returned (.tuple #[.agg #[.int .i64 v, .int .i64 k], .int .i64 ((Nm.vd (Nm.zz v)).length + (Nm.vd k).length : Nat), .int .i64 0]) ∧ Below w.heap.size w w' := by
  have hg := getI_vd v (Nm.vd k ++ more) hv.1 hv.2
  have hg2 := getL_vd k more h0 h1
  have c1 := fun w hS => get_any A n c _ w hS hby
  rw [hg] at c1
  have hnl : (Nm.vd (Nm.zz v)).length + (Nm.vd k).length ≤ n := by rw [hS.len, List.length_append, List.length_append]; omega
  have hl1 := Nm.vd_len (Nm.zz v)
  have hl2 := Nm.vd_len k
  have c2 := fun (w' : World) (hb : Below w.heap.size w w') => getLen_any _ _ _ _ w' ((hS.below hb).cut (Nm.vd (Nm.zz v)).length (by omega)) (fun y hy => hby y (List.mem_of_mem_drop hy))
  rw [List.drop_left, hg2] at c2
  have hcap := hS.cap
  have hmax := hS.max
  unfold maxLen at hmax
  rw [if_neg (show ¬ c = (Nm.vd (Nm.zz v)).length by omega)] at c2
  generalize (Nm.vd (Nm.zz v)).length = L at *
  generalize (Nm.vd k).length = M at *
  have C1 := Lib.hid c1
  have C2 := Lib.hid c2
  have HS := Lib.hid hS
  clear c1 c2 hg hg2 hby hS
  have hb0 : Below w.heap.size w (w.alloc (.cells #[.int .i64 0, .int .i64 0] 144)) := (Below.refl _ _).alloc (Nat.le_refl _) _
  go_enter Tryz.func195, Tryz.ntmps195
  go_wp2_with fail
  refine (C1.out _ (HS.out.below hb0)).mono ?_
  rintro e w1 ⟨rfl, rfl⟩
  unfold three
  go_wp2_with fail
  refine (C2.out _ hb0).mono ?_
  rintro e w1 ⟨rfl, rfl⟩
  unfold three
  go_wp2_with fail
  refine bodyPost_ret (v := .tuple #[.agg #[.int .i64 v, .int .i64 k], .int .i64 ((L : Int) + (M : Int)), .int .i64 0]) (by simp [results, Tryz.results195, go_sem]) rfl ⟨by go_num, ?_⟩
  exact (Below.refl _ _).alloc (Nat.le_refl _) _
set_option maxHeartbeats 1000000 in
theorem getRuns_any (A : Option Addr) (n c : Nat) (rs : Rn.Rs) (more : List Int) (N : Nat) (w : World) (hS : Wd.Sl w .u8 A n c (Rn.runB rs ++ more)) (hby : Nm.Byt (Rn.runB rs ++ more)) (hN : N = (Rn.flat rs).length) (hN2 : N ≤ 4096) (hF : Rn.FitR rs) (hrl : rs.length ≤ 4096) :
    Calls Tryz.prog 146 #[.slice A n c, .int .i64 N] w (Wd.Out3N w (Rn.flat rs) (Rn.runB rs).length 0) := by
  obtain ⟨i0, hi, hz0, hz1, hz2⟩ := info_parts info_int
  have HN := Lib.hid hN
  have HF := Lib.hid hF
  have Hby := Lib.hid hby
  have hnl : (Rn.runB rs).length ≤ n := by rw [hS.len, List.length_append]; omega
  have hpl : (Rn.runB rs).length ≤ 1000000 := by have := Rn.runB_len rs; omega
  have hcap := hS.cap
  have hmax := hS.max
  unfold maxLen at hmax
  clear hN hF hby
  go_enter Tryz.func146, Tryz.ntmps146
  go_wp2_with (at_make; refine wpList_make_own _ rfl (.const (.int .i64 0)) (.tmp 12) 25 rfl w.heap.size 3 i0 _ 1 Tryz.underlying25 hi hz0 hz1 .i64 .i64 N N rfl rfl rfl (by rw [hz2]; omega) (by unfold maxLen; omega) (Nat.le_refl _) ?_; intro w3 hown hgrow)
  have hb3 := (Below.refl w.heap.size w).grown hgrow (Nat.le_refl _) (by simp)
  clear hgrow
  go_loopw [7, 8] (fun v p wr => ∃ (k L t : Nat) (B' : Option Addr) (c' : Nat) (ys : List Int), v = .slice B' t c' ∧ p = .int .i64 L ∧ Hid (k ≤ rs.length ∧ L = (Rn.runB (rs.take k)).length ∧ ys = Rn.flat (rs.take k) ∧ t = ys.length) ∧ t ≤ N ∧ wr.ownsRow w.heap.size 3 1 (.slice B' t c') ys.length (ys.map (Value.int .i64)) ∧ Below w.heap.size w wr) (fun v _ _ => N - Wd.lenOf v)
  case atStart => exact ⟨0, 0, 0, _, _, [], rfl, rfl, Lib.hid ⟨Nat.zero_le _, rfl, rfl, rfl⟩, Nat.zero_le _, hown, hb3⟩
  case round =>
    clear hown hb3
    obtain ⟨k, L, t, B', c', ys, rfl, rfl, hLy, htN, hown, hB⟩ := hrel
    have hsz := hB.size
    by_cases hlt : t < N
    · obtain ⟨x, q, d, hx, hq1, hq2, hL2, hd1, hd2, hc1, hst⟩ : ∃ (x q : Int) (d : Nat), Rn.Fit x ∧ 1 ≤ q ∧ q ≤ (N : Int) - (t : Int) ∧ L + d ≤ (Rn.runB rs).length ∧ 1 ≤ d ∧ d ≤ 20 ∧
          Calls Tryz.prog 195 #[.slice (A.map (·.add L)) (n - L) (c - L)] wr (fun e w' => e = .returned (.tuple #[.agg #[.int .i64 x, .int .i64 q], .int .i64 (d : Int), .int .i64 0]) ∧ Below wr.heap.size wr w') ∧
          (k + 1 ≤ rs.length ∧ L + d = (Rn.runB (rs.take (k + 1))).length ∧ ys ++ List.replicate q.toNat x = Rn.flat (rs.take (k + 1)) ∧ t + q.toNat = (ys ++ List.replicate q.toNat x).length) := by
        obtain ⟨hk, rfl, rfl, rfl⟩ := hLy.out
        have hkl : k < rs.length := by
          rcases Nat.lt_or_ge k rs.length with h | h
          · exact h
          · exfalso
            rw [List.take_of_length_le h, ← HN.out] at hlt
            omega
        have hm := HF.out (rs.getD k (0, 0)) (by simp [List.getD, hkl])
        have hnx := Rn.runB_next rs k hkl
        have hfx := Rn.flat_next rs k hkl
        have hL2 : (Rn.runB (rs.take (k + 1))).length ≤ (Rn.runB rs).length := by
          have h := congrArg List.length (congrArg Rn.runB (List.take_append_drop (k + 1) rs))
          rw [Rn.runB_app, List.length_append] at h
          omega
        have hfl := Rn.flat_take_len rs (k + 1)
        have hlen := congrArg List.length hnx
        rw [List.length_append, List.length_append] at hlen
        have hflen := congrArg List.length hfx
        rw [List.length_append, List.length_replicate] at hflen
        have v1 := Nm.vd_len (Nm.zz (rs.getD k (0, 0)).1)
        have v2 := Nm.vd_len (rs.getD k (0, 0)).2
        have hcut := (hS.below hB).cut (Rn.runB (rs.take k)).length (by omega)
        rw [if_neg (by omega), Rn.runB_drop rs k hkl more] at hcut
        have hb2 : Nm.Byt (Nm.vd (Nm.zz (rs.getD k (0, 0)).1) ++ (Nm.vd (rs.getD k (0, 0)).2 ++ (Rn.runB (rs.drop (k + 1)) ++ more))) := by
          rw [← Rn.runB_drop rs k hkl more]
          exact fun y hy => Hby.out y (List.mem_of_mem_drop hy)
        have hc1 := getRun_any _ _ _ _ _ _ wr hcut hb2 hm.1 (by omega) (by omega)
        exact ⟨(rs.getD k (0, 0)).1, (rs.getD k (0, 0)).2, _, hm.1, hm.2.1, by rw [HN.out]; omega, by omega, by omega, by omega, hc1, hkl, by omega, hfx.symm, by rw [List.length_append, List.length_replicate]⟩
      have Hc1 := Lib.hid hc1
      have Hst := Lib.hid hst
      have hyl : ys.length ≤ 100000 := by have := hLy.out.2.2.2; omega
      obtain ⟨wo, rfl⟩ : ∃ wo : World, wo = wr := ⟨_, rfl⟩
      have hq0 : (q == 0) = false := by rw [beq_eq_false_iff_ne]; omega
      clear hc1 hst
      go_wp2_with fail
      refine Hc1.out.mono ?_
      rintro e w2 ⟨rfl, hB2⟩
      have hown2 := Wd.own_below hown hB2
      have hW2 : Below w.heap.size w w2 := hB.trans (hB2.mono hsz)
      have hsz2 := hW2.size
      clear hB2 hown hB
      go_wp2_with fail
      refine (appendRun_any w.heap.size _ ys x q _ (hown2.alloc _) (by simp; omega) hyl (by omega) (by omega)).mono ?_
      rintro e w4 ⟨v4, rfl, hown4, hB4⟩
      have hW4 : Below w.heap.size w w4 := (hW2.alloc hsz2 _).trans hB4
      obtain ⟨B4, c4, rfl⟩ := Wd.own_slice hown4 Hst.out.2.2.2.symm
      go_wp2_with fail
      go_roundw
      case rel => exact ⟨k + 1, L + d, t + q.toNat, B4, c4, _, rfl, by go_num, Lib.hid Hst.out, by omega, hown4, hW4⟩
      case measure => simp [Wd.lenOf]; omega
    · go_wp2_with fail
      go_ret3
      obtain ⟨hk, rfl, rfl, rfl⟩ := hLy.out
      have hkl : k = rs.length := by
        rcases Nat.lt_or_ge k rs.length with h | h
        · exfalso
          have hm := HF.out (rs.getD k (0, 0)) (by simp [List.getD, h])
          have h1 := congrArg List.length (Rn.flat_next rs k h)
          rw [List.length_append, List.length_replicate] at h1
          have h2 := Rn.flat_take_len rs (k + 1)
          rw [← HN.out] at h2
          omega
        · omega
      have e : rs.take k = rs := List.take_of_length_le (by omega)
      rw [e] at hown ⊢
      obtain ⟨A', n', c2, e2, hS'⟩ := Wd.Sl.of_own hown
      cases e2
      exact ⟨_, _, _, rfl, ⟨hS', Wd.own_ge hown⟩, hB⟩
end Rc
end Go.Proofs.YtaoeipehpakngaaGreatDoor
namespace Go.Proofs.YtaoeipehpakngaaGreatDoor
open Go.RowKit
namespace Rc
open Nc Lw
set_option maxRecDepth 1000000 in
theorem goes_get (k : Nat) (hk : k < 3) : Goes (fget k) := by
  match k, hk with
  | 0, _ => exact fun args w => by kernel_rfl
  | 1, _ => exact fun args w => by kernel_rfl
  | 2, _ => exact fun args w => by kernel_rfl
theorem fget_any (k : Nat) (hk : k < 3) (A : Option Addr) (n c : Nat) (l more : List Int) (N : Nat) (w : World) (hS : Wd.Sl w .u8 A n c (Rn.body l k ++ more)) (hby : Nm.Byt (Rn.body l k ++ more)) (hN : N = l.length) (hN2 : N ≤ 4096) (hF : Rn.Fits l) :
    Calls Tryz.prog (fget k) #[.slice A n c, .int .i64 N] w (Wd.Out3N w l (Rn.body l k).length 0) := by
  match k, hk with
  | 0, _ => exact getPlain_any A n c l more N w hS hby hN (by omega) hF
  | 1, _ =>
    have h := getRuns_any A n c (Rn.runs l) more N w hS hby (by rw [Rn.flat_runs]; exact hN) hN2 (Rn.runs_fit hF (by omega)) (by have := Rn.runs_len l; omega)
    rw [Rn.flat_runs] at h
    exact h
  | 2, _ => exact getDeltas_any A n c l more N w hS hby hN (by omega) hF
set_option maxRecDepth 100000 in
set_option maxHeartbeats 2000000 in
theorem readBlock_any (A : Option Addr) (n c : Nat) (l more : List Int) (w : World) (hS : Wd.Sl w .u8 A n c (Rn.enc l ++ more)) (hby : Nm.Byt more) (hN : l.length ≤ 4096) (hF : Rn.Fits l) :
    Calls Tryz.prog 161 #[.slice A n c] w (Wd.Out3N w l (Rn.enc l).length 0) := by
  obtain ⟨k, hk⟩ : ∃ k, k = Rn.bi l 3 := ⟨_, rfl⟩
  have hk3 : k < 3 := by rw [hk]; exact Nat.lt_succ_of_le (Rn.bi_le l 2)
  have hbb := Rn.byt_app (Rn.body_byt hF hN k) hby
  have hlb := Rn.byt_app (Nm.vd_byt (l.length : Int) (by omega) (by omega)) hbb
  have hfg := fun A n c w hS => fget_any k hk3 A n c l more l.length w hS hbb rfl hN hF
  have hbl := Rn.body_len l k
  have hcg := fun A n c w hS => getLen_any A n c (Nm.vd (l.length : Int) ++ (Rn.body l k ++ more)) w hS hlb
  rw [getL_vd _ _ (by omega) (by omega)] at hcg
  have hvl := Nm.vd_len (l.length : Int)
  have hel : (Rn.enc l).length = 1 + (Nm.vd (l.length : Int)).length + (Rn.body l k).length := by unfold Rn.enc; rw [← hk]; exact Rn.block_len l k
  have hbs : Rn.enc l ++ more = (k : Int) :: (Nm.vd (l.length : Int) ++ (Rn.body l k ++ more)) := by unfold Rn.enc Rn.block; rw [← hk]; simp
  rw [hbs] at hS
  have hnl : 1 + (Nm.vd (l.length : Int)).length + (Rn.body l k).length ≤ n := by rw [hS.len]; simp; omega
  have hcap := hS.cap
  have hmax := hS.max
  unfold maxLen at hmax
  have e2 : List.drop (1 + (Nm.vd (l.length : Int)).length) ((k : Int) :: (Nm.vd (l.length : Int) ++ (Rn.body l k ++ more))) = Rn.body l k ++ more := by
    rw [Nat.add_comm, List.drop_succ_cons, List.drop_left]
  obtain ⟨b, o, rfl, hbB, hcell⟩ := hS.rd 0 (by simp)
  rw [Nat.add_zero] at hcell
  have hcell' : w.cell? ⟨b, o, none⟩ = some (.int .u8 (k : Int)) := hcell
  rw [hel]
  have hcg2 := fun (w' : World) (hb : Below w.heap.size w w') => hcg _ _ _ w' ((hS.below hb).cut_at 1 (by omega) (by omega))
  have hfg2 := fun (w' : World) (hb : Below w.heap.size w w') => hfg _ _ _ w' (by
    have h := (hS.below hb).cut (1 + (Nm.vd (l.length : Int)).length) (by omega)
    rw [e2] at h
    exact h)
  clear hfg hcg
  generalize (Nm.vd (l.length : Int)).length = D at *
  generalize (Rn.body l k).length = E at *
  obtain ⟨N, hNN⟩ : ∃ N, N = l.length := ⟨_, rfl⟩
  rw [← hNN] at hfg2 hcg2 hN hbl
  have Hfg := Lib.hid hfg2
  have Hcg := Lib.hid hcg2
  have hgo := goes_get k hk3
  unfold Goes at hgo
  have hd3 : decide ((3 : Int) ≤ (k : Int)) = false := by simp; omega
  have hdN : decide ((4096 : Int) < (N : Int)) = false := by simp; omega
  have hn0 : (0 : Int) < (n : Int) := by omega
  have hne : ((n : Int) == 0) = false := by rw [beq_eq_false_iff_ne]; omega
  have hwk : IntKind.i64.wrap (k : Int) = (k : Int) := by
    match k, hk3 with
    | 0, _ => rfl
    | 1, _ => rfl
    | 2, _ => rfl
  have cK1 : kindCells[k * 2 + 1]? = some (fnv (fget k)) := by
    match k, hk3 with
    | 0, _ => rfl
    | 1, _ => rfl
    | 2, _ => rfl
  unfold fnv at cK1
  have HK1 := Lib.hid cK1
  generalize fget k = f at *
  have hn1 : 0 < n := by omega
  clear hk hbb hlb hfg2 hcg2 e2 hcell hS hNN hel hbs hby hF cK1
  go_enter Tryz.func161, Tryz.ntmps161
  go_upto_region 3 with fail
  go_cut [5, 6] (fun s t wx => s = .slice (some ⟨w.heap.size, 0, none⟩) 3 3 ∧ t = .int .i64 (k : Int) ∧ Wd.Bx wx w.heap.size 127 kindCells ∧ Below w.heap.size w wx)
  case first =>
    go_region_held3 (fun w' => w'.cell? ⟨b, o, none⟩ = some (.int .u8 (k : Int))) (first | exact hc2 | go_keep) (first | (go_at_call 93; (with_reducible refine (kinds_any _).mono ?_); rintro e w2 ⟨rfl, rfl⟩; have hc2 := (World.cell?_alloc_lt w.drew (.cells kindCells 127) ⟨b, o, none⟩ hbB).trans hcell'))
    all_goals (go_wp2_with fail; go_meet; exact ⟨rfl, rfl, Wd.Bx.new _ _ _, ((Below.refl _ _).alloc (Nat.le_refl _) _).drew⟩)
  case rest =>
    obtain ⟨rfl, rfl, hX, hB⟩ := hcut
    go_wp2_with fail
    refine (Hcg.out _ hB).mono ?_
    rintro e w3 ⟨rfl, rfl⟩
    unfold three
    have hfb := Hfg.out _ hB.drew
    have cK : _ = _ := hX.cell (k * 2 + 1)
    rw [HK1.out] at cK
    have hxl := hX.lt
    have hsz := hB.size
    have HX := Lib.hid hX
    clear hX
    have j1 : (k : Int) < 3 := by omega
    have j2 : (0 : Int) ≤ (k : Int) := by omega
    have j3 : (0 : Int) ≤ 1 + (D : Int) := by omega
    have j4 : 1 + (D : Int) ≤ (n : Int) := by omega
    have j5 : (1 + (D : Int)).toNat = 1 + D := by omega
    by_cases hcD : c = 1 + D
    · subst hcD
      rw [if_pos rfl, Nat.sub_self, show n - (1 + D) = 0 by omega] at hfb
      have Hfb := Lib.hid hfb
      clear hfb
      go_upto_region 12 with fail
      go_cut [9, 11, 12] (fun u s t wx => ∃ A5 n5 c5, u = .int .i64 0 ∧ s = .slice A5 n5 c5 ∧ t = .int .i64 (E : Int) ∧ Wd.SlB w.heap.size wx .i64 A5 n5 c5 l ∧ Below w.heap.size w wx)
      case first =>
        go_region_held3 (fun w' => w'.cell? ⟨w.heap.size, k * 2 + 1, none⟩ = some (.func (.func f) #[] #[])) (first | exact hc5 | go_keep) (first | ((with_reducible refine Hfb.out.mono ?_); rintro e w5 ⟨A5, n5, c5, rfl, hS5, hB5⟩; have hc5 := (hB5.cell (p := ⟨w.heap.size, k * 2 + 1, none⟩) hxl).trans cK))
        all_goals (go_wp2_with fail; go_meet; exact ⟨A5, n5, c5, rfl, rfl, rfl, hS5.up hsz, hB.drew.trans (hB5.mono hsz)⟩)
      case rest =>
        obtain ⟨A5, n5, c5, rfl, rfl, rfl, hS5, hB5⟩ := hcut
        go_wp2_with fail
        go_ret3
        exact ⟨A5, n5, c5, rfl, hS5, hB5⟩
    · rw [if_neg hcD, Option.map_some, Addr.add_lit] at hfb
      have Hfb := Lib.hid hfb
      clear hfb
      go_upto_region 12 with fail
      go_cut [9, 11, 12] (fun u s t wx => ∃ A5 n5 c5, u = .int .i64 0 ∧ s = .slice A5 n5 c5 ∧ t = .int .i64 (E : Int) ∧ Wd.SlB w.heap.size wx .i64 A5 n5 c5 l ∧ Below w.heap.size w wx)
      case first =>
        go_region_held3 (fun w' => w'.cell? ⟨w.heap.size, k * 2 + 1, none⟩ = some (.func (.func f) #[] #[])) (first | exact hc5 | go_keep) (first | ((with_reducible refine Hfb.out.mono ?_); rintro e w5 ⟨A5, n5, c5, rfl, hS5, hB5⟩; have hc5 := (hB5.cell (p := ⟨w.heap.size, k * 2 + 1, none⟩) hxl).trans cK))
        all_goals (go_wp2_with fail; go_meet; exact ⟨A5, n5, c5, rfl, rfl, rfl, hS5.up hsz, hB.drew.trans (hB5.mono hsz)⟩)
      case rest =>
        obtain ⟨A5, n5, c5, rfl, rfl, rfl, hS5, hB5⟩ := hcut
        go_wp2_with fail
        go_ret3
        exact ⟨A5, n5, c5, rfl, hS5, hB5⟩
set_option maxHeartbeats 1000000 in
theorem decode_new (A : Option Addr) (n c : Nat) (l more : List Int) (w : World) (hS : Wd.Sl w .u8 A n c (Rn.enc l ++ more)) (hby : Nm.Byt more) (hN : l.length ≤ 4096) (hF : Rn.Fits l) :
    Calls Tryz.prog 112 #[.slice A n c] w (Wd.Out3N w l (Rn.enc l).length 0) := by
  have c1 := readBlock_any A n c l more w hS hby hN hF
  have c2 := fun A m c w hS hm => encode_ok A m c l w hS hm hF
  have hge : 2 ≤ (Rn.enc l).length := Rn.block_ge l _
  have hle : (Rn.enc l).length ≤ 100000 := by have := Rn.block_le l (Rn.bi l 3); unfold Rn.enc; omega
  have hnl : (Rn.enc l).length ≤ n := by rw [hS.len, List.length_append]; omega
  have hh := hS.head (Rn.enc l).length hnl
  rw [List.take_left] at hh
  have hcap := hS.cap
  have hmax := hS.max
  unfold maxLen at hmax
  obtain ⟨L, hL⟩ : ∃ L, L = (Rn.enc l).length := ⟨_, rfl⟩
  rw [← hL] at c1 hge hle hnl hh ⊢
  generalize Rn.enc l = bs at *
  have C1 := Lib.hid c1
  have C2 := Lib.hid c2
  have HL := Lib.hid hL
  have Hh := Lib.hid hh
  clear c1 c2 hL hh hS hby hF
  go_enter Tryz.func112, Tryz.ntmps112
  go_wp2_with fail
  refine C1.out.mono ?_
  rintro e w1 ⟨A1, n1, c1, rfl, hS1, hB1⟩
  have hn1 : n1 ≤ 4096 := by rw [hS1.1.len]; exact hN
  go_wp2_with fail
  refine (C2.out A1 n1 c1 w1 hS1.1 hn1).mono ?_
  rintro e w2 ⟨A2, n2, c2, rfl, hS2, hB2⟩
  have hW2 : Below w.heap.size w w2 := hB1.trans (hB2.mono hB1.size)
  have hS12 := hS1.below hB2
  have hA2 := Hh.out.below hW2
  obtain rfl : n2 = L := hS2.len.trans HL.out.symm
  clear hB1 hB2 hS1
  go_wp2_with fail
  refine (equal_same A2 A n2 c2 c bs w2 hS2 hA2 (by omega)).mono ?_
  rintro e w3 ⟨rfl, rfl⟩
  go_wp2_with fail
  go_ret3
  exact ⟨A1, n1, c1, rfl, hS12, hW2⟩
end Rc
end Go.Proofs.YtaoeipehpakngaaGreatDoor
namespace Go.Proofs.YtaoeipehpakngaaGreatDoor
set_option maxRecDepth 20000
open Go.RowKit
namespace Wd
theorem Sl.box {w w' : World} {p : Nat} {t : TypeId} {cs cs' : Array Value} {k : IntKind} {A : Option Addr} {n c : Nat} {ys : List Int} (h : Sl w k A n c ys) (mv : Mv (fun g => g = p) w w') (b : Bx w p t cs) (b' : Bx w' p t cs')
    (hk : ∀ (j : Nat) (v : Int), cs[j]? = some (Value.int k v) → cs'[j]? = some (Value.int k v)) : Sl w' k A n c ys :=
  ⟨h.len, h.cap, h.max, h.nil, fun j hj => by
    obtain ⟨g, o, e, hlt, hc⟩ := h.rd j hj
    refine ⟨g, o, e, Nat.lt_of_lt_of_le hlt mv.size, ?_⟩
    by_cases q : g = p
    · subst q
      rw [b.cell] at hc
      rw [b'.cell]
      exact hk _ _ hc
    · have hb := mv.keep g hlt q
      simp only [World.cell?, hb] at hc ⊢
      exact hc⟩
end Wd
namespace Fi
open Se (Seg Sg Gb)
open Nc
theorem seven_ints {a b c d e f g e' f' g' : Value} (he : ∀ x, e ≠ .int .i64 x) (hf : ∀ x, f ≠ .int .i64 x) (hg : ∀ x, g ≠ .int .i64 x) : ∀ (j : Nat) (v : Int), (#[a, b, c, d, e, f, g] : Array Value)[j]? = some (.int .i64 v) → (#[a, b, c, d, e', f', g'] : Array Value)[j]? = some (.int .i64 v) := by
  intro j v h
  match j with
  | 0 => exact h
  | 1 => exact h
  | 2 => exact h
  | 3 => exact h
  | 4 => exact absurd (by simpa using h) (he v)
  | 5 => exact absurd (by simpa using h) (hf v)
  | 6 => exact absurd (by simpa using h) (hg v)
  | j + 7 => simp at h
section
variable {w0 w : World} {p : Nat} {a b c d : Int} {OA : Option Addr} {on oc : Nat} {CA : Option Addr} {cn cc : Nat}
set_option maxHeartbeats 4000000 in
theorem readOffsets_yes {l : List Int} {r : List (List Int)} (h : Lb w0 w p a b c d OA on oc CA cn cc (Rn.enc l :: r)) (hr : r.length ≤ 1000000) (hN : l.length ≤ 4096) (hF : Rn.Fits l) :
    Calls Tryz.prog 66 #[.pointer (some ⟨p, 0, none⟩)] w fun e w' => e = .returned (.bool true) ∧ ∃ YA yn yc, Lb w0 w' p a b c d YA yn yc CA cn cc r ∧ Wd.SlB w.heap.size w' .i64 YA yn yc l ∧ Wd.Mv (fun g => g = p) w w' := by
  have Cn := Lib.hid (next_cons h hr)
  have Cd := Lib.hid (fun A n m w hS => Rc.decode_new A n m l [] w hS (fun _ h => by cases h) hN hF)
  clear h
  rw [List.append_nil] at Cd
  go_enter Tryz.func66, Tryz.ntmps66
  go_wp2_with fail
  refine Cn.out.mono ?_
  rintro e w1 ⟨A1, n1, c1, rfl, hS1, hL1, hM1⟩
  have Hl := Lib.hid hS1.len
  have Cd1 := Lib.hid (Cd.out A1 n1 c1 w1 (hS1.below hL1.bel))
  rw [← Hl.out] at Cd1
  have HL1 := Lib.hid hL1
  have HM1 := Lib.hid hM1
  clear hS1 hL1 hM1 Cn Cd
  go_wp2_with fail
  refine Cd1.out.mono ?_
  rintro e w2 ⟨YA, yn, yc, rfl, hS2, hB2⟩
  have hL2 := HL1.out.below hB2
  obtain ⟨⟨PA, pn, pc, hs, hb⟩, hp, hbel⟩ := hL2
  have d4 : w2.cell? ⟨p, 4, none⟩ = some (.slice OA on oc) := hb.cell 4
  have f4 := hb.free 4
  have m2 := (Wd.Mv.refl (fun g => g = p) w2).set (G := fun g => g = p) (a := ⟨p, 4, none⟩) rfl (.slice YA yn yc)
  have b2 : Wd.Bx (w2.setCell ⟨p, 4, none⟩ (.slice YA yn yc)) p 103 #[.int .i64 a, .int .i64 b, .int .i64 c, .int .i64 d, .slice YA yn yc, .slice CA cn cc, .slice PA pn pc] := hb.set 4 _
  have HE := Lib.hid (show Lb w0 (w2.setCell ⟨p, 4, none⟩ (.slice YA yn yc)) p a b c d YA yn yc CA cn cc r from ⟨⟨PA, pn, pc, hs, b2⟩, hp, hbel.setCell (p := ⟨p, 4, none⟩) hp _⟩)
  have HS2 := Lib.hid (show Wd.SlB w.heap.size (w2.setCell ⟨p, 4, none⟩ (.slice YA yn yc)) .i64 YA yn yc l from ⟨hS2.1.box m2 hb b2 (seven_ints (by simp) (by simp) (by simp)), (hS2.up HM1.out.size).2⟩)
  have HM2 := Lib.hid ((HM1.out.then (Wd.Mv.of_below hB2)).then m2)
  have q0 : ((n1 : Int) == (n1 : Int)) = true := by simp
  clear hs hb hbel hp hS2 hB2 m2 b2 Cd1
  go_wp2_with fail
  go_ret
  exact ⟨rfl, YA, yn, yc, HE.out, HS2.out, HM2.out⟩
end
end Fi
end Go.Proofs.YtaoeipehpakngaaGreatDoor
