/- What value.Get does: getInt, getStr, getBool, Get. What value.Any does. -/
import Derived.Laws.BytesArg
import Derived.BigRegion
import Derived.Deep.RegionHeld3
import Derived.Deep.RegionWith
import Derived.Deep.DeepCutAuto
import Derived.Test.YtaoeipehpakngaaGreatDoorPb07
import Derived.Test.YtaoeipehpakngaaGreatDoorPb24
namespace Go.Proofs.YtaoeipehpakngaaGreatDoor
set_option maxRecDepth 20000
open Go.RowKit
namespace Vc
open Va Nc
def ansV (r : Vl × Int × Int) : Value := .tuple #[.agg #[.int .i64 r.1.kind, .int .i64 r.1.i, .string r.1.s, .bool r.1.b], .int .i64 r.2.1, .int .i64 r.2.2]
theorem ansV_null (e : Int) : ansV (null, 0, e) = .tuple #[.agg #[.int .i64 0, .int .i64 0, .string ⟨#[]⟩, .bool false], .int .i64 0, .int .i64 e] := rfl
theorem str_of {W : World} {A : Option Addr} {n c : Nat} {ys : List Int} (h : Wd.Sl W .u8 A n c ys) (b o : Nat) (hA : A = some ⟨b, o, none⟩) :
    (convert 32 9 (.slice (some ⟨b, o, none⟩) n c)).run Tryz.prog W = .ok (.string (strOfNums ys)) W := by
  subst hA
  refine run_convert_bytes_arg W 32 5 Tryz.underlying32 Tryz.underlying5 b o n c ys h.len.symm (fun i hi => ?_) 9 Tryz.underlying9
  obtain ⟨b', o', e, _, hc⟩ := h.rd i (by rw [← h.len]; exact hi)
  simp only [Option.some.injEq, Addr.mk.injEq, and_true] at e
  obtain ⟨rfl, rfl⟩ := e
  exact hc
set_option maxHeartbeats 1000000 in
theorem getInt_any (A : Option Addr) (n c : Nat) (bs : List Int) (w : World) (hS : Wd.Sl w .u8 A n c bs) (hB : Nm.Byt bs) :
    Calls Tryz.prog 259 #[.slice A n c] w fun e w' => e = .returned (ansV (Va.get bs 1)) ∧ Below w.heap.size w w' := by
  have hb1 := (Below.refl w.heap.size w).alloc (Nat.le_refl _) (.cells #[.int .i64 0, .int .i64 0, .string ⟨#[]⟩, .bool false] 47)
  have c1 := get_any A n c bs _ (hS.below hb1) hB
  obtain ⟨m, k, er, hg⟩ : ∃ m k er, Nm.getI bs = (m, k, er) := ⟨_, _, _, rfl⟩
  have hr : Va.get bs 1 = if er = 0 then (⟨1, m, ⟨#[]⟩, false⟩, k, 0) else (null, 0, er) := by
    unfold Va.get
    rw [if_neg (by decide), if_pos rfl, hg]
  rw [hg] at c1
  rw [hr]
  have C1 := Lib.hid c1
  clear hr hg c1
  by_cases he : er = 0
  · subst he
    rw [if_pos rfl]
    go_enter Tryz.func259, Tryz.ntmps259
    go_wp2_with fail
    refine C1.out.mono ?_
    rintro e w1 ⟨rfl, rfl⟩
    unfold three
    go_wp2_with fail
    (try simp only [Exit.inBlock, Exit.then])
    refine bodyPost_ret (v := ansV (⟨1, m, ⟨#[]⟩, false⟩, k, 0)) ?_ rfl ⟨rfl, ?_⟩
    · unfold ansV; rw [res_cell3 rfl]; go_simp
    · repeat' (first | exact Below.refl _ _ | refine Below.setCell ?_ (by simp <;> omega) _ | refine Below.alloc ?_ (by simp <;> omega) _)
  · rw [if_neg he]
    have he' : (er != 0) = true := by simpa using he
    go_enter Tryz.func259, Tryz.ntmps259
    go_wp2_with fail
    refine C1.out.mono ?_
    rintro e w1 ⟨rfl, rfl⟩
    unfold three
    go_wp2_with fail
    (try simp only [Exit.inBlock, Exit.then])
    refine bodyPost_ret (v := ansV (null, 0, er)) ?_ rfl ⟨rfl, ?_⟩
    · rw [ansV_null, res_cell3 rfl]; go_simp
    · repeat' (first | exact Below.refl _ _ | refine Below.setCell ?_ (by simp <;> omega) _ | refine Below.alloc ?_ (by simp <;> omega) _)
theorem getBool_any (A : Option Addr) (n c : Nat) (bs : List Int) (w : World) (hS : Wd.Sl w .u8 A n c bs) (hB : Nm.Byt bs) :
    Calls Tryz.prog 261 #[.slice A n c] w fun e w' => e = .returned (ansV (Va.get bs 3)) ∧ Below w.heap.size w w' := by
  have hb1 := (Below.refl w.heap.size w).alloc (Nat.le_refl _) (.cells #[.int .i64 0, .int .i64 0, .string ⟨#[]⟩, .bool false] 47)
  have hl := hS.len
  cases bs with
  | nil =>
    have hr : Va.get [] 3 = (null, 0, 6) := rfl
    rw [hr]
    simp only [List.length_nil] at hl
    subst hl
    go_enter Tryz.func261, Tryz.ntmps261
    go_wp2_with fail
    (try simp only [Exit.inBlock, Exit.then])
    refine bodyPost_ret (v := ansV (null, 0, 6)) ?_ rfl ⟨rfl, ?_⟩
    · rw [ansV_null, res_cell3 rfl]; go_simp
    · repeat' (first | exact Below.refl _ _ | refine Below.setCell ?_ (by simp <;> omega) _ | refine Below.alloc ?_ (by simp <;> omega) _)
  | cons x r =>
    have hr : Va.get (x :: r) 3 = if 1 < x then (null, 0, 7) else (⟨3, 0, ⟨#[]⟩, x == 1⟩, 1, 0) := rfl
    rw [hr]
    obtain ⟨b, o, rfl, hbB, hcell0⟩ := hS.rd 0 (by simp)
    have hcell := (hb1.cell (p := ⟨b, o + 0, none⟩) hbB).trans hcell0
    simp only [Nat.add_zero, List.getD_cons_zero] at hcell
    have hn : 0 < n := by rw [hl]; simp
    have hnI : (0 : Int) < (n : Int) := by omega
    have hn0 : ((n : Int) == 0) = false := by simp; omega
    clear hl hr hcell0
    by_cases hx : 1 < x
    · rw [if_pos hx]
      go_enter Tryz.func261, Tryz.ntmps261
      go_wp2_with fail
      (try simp only [Exit.inBlock, Exit.then])
      refine bodyPost_ret (v := ansV (null, 0, 7)) ?_ rfl ⟨rfl, ?_⟩
      · rw [ansV_null, res_cell3 rfl]; go_simp
      · repeat' (first | exact Below.refl _ _ | refine Below.setCell ?_ (by simp <;> omega) _ | refine Below.alloc ?_ (by simp <;> omega) _)
    · rw [if_neg hx]
      obtain ⟨q, hq⟩ : ∃ q, q = (x == 1) := ⟨_, rfl⟩
      rw [← hq]
      have hq' : (x == 1) = q := hq.symm
      clear hq
      go_enter Tryz.func261, Tryz.ntmps261
      go_wp2_with fail
      (try simp only [Exit.inBlock, Exit.then])
      refine bodyPost_ret (v := ansV (⟨3, 0, ⟨#[]⟩, q⟩, 1, 0)) ?_ rfl ⟨rfl, ?_⟩
      · unfold ansV; rw [res_cell3 rfl]; go_simp
      · repeat' (first | exact Below.refl _ _ | refine Below.setCell ?_ (by simp <;> omega) _ | refine Below.alloc ?_ (by simp <;> omega) _)
set_option maxHeartbeats 2000000 in
theorem getStr_any (A : Option Addr) (n c : Nat) (bs : List Int) (w : World) (hS : Wd.Sl w .u8 A n c bs) (hB : Nm.Byt bs) :
    Calls Tryz.prog 260 #[.slice A n c] w fun e w' => e = .returned (ansV (Va.get bs 2)) ∧ Below w.heap.size w w' := by
  have hb1 := (Below.refl w.heap.size w).alloc (Nat.le_refl _) (.cells #[.int .i64 0, .int .i64 0, .string ⟨#[]⟩, .bool false] 47)
  have hS1 := hS.below hb1
  have c1 := getLen_any A n c bs _ hS1 hB
  have hr : Va.get bs 2 = (if (Nm.getL bs).2.2 ≠ 0 then (null, 0, (Nm.getL bs).2.2) else if 64 < (Nm.getL bs).1 then (null, 0, 2)
     else if (bs.length : Int) < (Nm.getL bs).2.1 + (Nm.getL bs).1 then (null, 0, 6)
     else (⟨2, 0, strOfNums ((bs.drop (Nm.getL bs).2.1.toNat).take (Nm.getL bs).1.toNat), false⟩, (Nm.getL bs).2.1 + (Nm.getL bs).1, 0)) := by
    unfold Va.get
    rw [if_neg (by decide), if_neg (by decide), if_pos rfl]
  have hcap := hS.cap
  have hmx := hS.max
  have hl := hS.len
  unfold maxLen at hmx
  rw [hr]
  clear hr
  by_cases h0 : (Nm.getL bs).2.2 = 0
  · obtain ⟨k, l, hg, hk, hl1, ht⟩ := getL_ok hB h0
    rw [hg] at c1 ⊢
    have C1 := Lib.hid c1
    have hk1 : 1 ≤ k ∧ k ≤ 10 := by
      have := Nm.vd_len (l : Int)
      have q := congrArg List.length ht
      rw [List.length_take] at q
      omega
    obtain ⟨hk1, hk10⟩ := hk1
    have hkI : (k : Int) ≤ 10 := by omega
    have hkJ : (0 : Int) ≤ (k : Int) := by omega
    have hlJ : (0 : Int) ≤ (l : Int) := by omega
    clear c1 hg h0 ht
    simp only [ne_eq, not_true_eq_false, if_false, Int.toNat_natCast]
    by_cases h1 : 64 < (l : Int)
    · rw [if_pos h1]
      clear hS hS1 hB hl hcap hmx hb1
      go_enter Tryz.func260, Tryz.ntmps260
      go_wp2_with fail
      refine C1.out.mono ?_
      rintro e w1 ⟨rfl, rfl⟩
      unfold three
      go_wp2_with fail
      (try simp only [Exit.inBlock, Exit.then])
      refine bodyPost_ret (v := ansV (null, 0, 2)) ?_ rfl ⟨rfl, ?_⟩
      · rw [ansV_null, res_cell3 rfl]; go_simp
      · repeat' (first | exact Below.refl _ _ | refine Below.setCell ?_ (by simp <;> omega) _ | refine Below.alloc ?_ (by simp <;> omega) _)
    rw [if_neg h1]
    have hw : wrap64 ((k : Int) + (l : Int)) = (k : Int) + (l : Int) := by
      unfold wrap64
      omega
    by_cases h2 : (bs.length : Int) < (k : Int) + (l : Int)
    · rw [if_pos h2]
      have h2' : (n : Int) < (k : Int) + (l : Int) := by omega
      have hkn : (k : Int) ≤ (n : Int) := by omega
      clear hS hS1 hB hl hb1 h2
      go_enter Tryz.func260, Tryz.ntmps260
      go_wp2_with fail
      refine C1.out.mono ?_
      rintro e w1 ⟨rfl, rfl⟩
      unfold three
      go_wp2_with fail
      (try simp only [Exit.inBlock, Exit.then])
      refine bodyPost_ret (v := ansV (null, 0, 6)) ?_ rfl ⟨rfl, ?_⟩
      · rw [ansV_null, res_cell3 rfl]; go_simp
      · repeat' (first | exact Below.refl _ _ | refine Below.setCell ?_ (by simp <;> omega) _ | refine Below.alloc ?_ (by simp <;> omega) _)
    · rw [if_neg h2]
      have h2' : ¬ (n : Int) < (k : Int) + (l : Int) := by omega
      have h3 : (k : Int) ≤ (k : Int) + (l : Int) := by omega
      have h4 : (k : Int) + (l : Int) ≤ (c : Int) := by omega
      obtain ⟨b, o, rfl, -⟩ := hS.rd 0 (by omega)
      have hm := hS1.mid k (k + l) (by omega) (by omega)
      rw [show k + l - k = l by omega] at hm
      have Hl := Lib.hid hl
      clear hS hS1 hB hb1 h2 hl
      by_cases hc : c = k
      · subst hc
        obtain rfl : l = 0 := by omega
        rw [if_pos rfl, Nat.sub_self] at hm
        have hcv := str_of hm b o rfl
        obtain ⟨tt, htt⟩ : ∃ tt, tt = strOfNums ((bs.drop c).take 0) := ⟨_, rfl⟩
        rw [← htt] at hcv ⊢
        clear htt
        go_enter Tryz.func260, Tryz.ntmps260
        go_wp2_with fail
        refine C1.out.mono ?_
        rintro e w1 ⟨rfl, rfl⟩
        unfold three
        go_wp2_with fail
        (try simp only [Exit.inBlock, Exit.then])
        refine bodyPost_ret (v := ansV (⟨2, 0, tt, false⟩, (c : Int) + ((0 : Nat) : Int), 0)) ?_ rfl ⟨rfl, ?_⟩
        · unfold ansV; rw [res_cell3 rfl]; go_simp
        · repeat' (first | exact Below.refl _ _ | refine Below.setCell ?_ (by simp <;> omega) _ | refine Below.alloc ?_ (by simp <;> omega) _)
      · rw [if_neg hc, Option.map_some, Addr.add_lit] at hm
        have hcv := str_of hm b (o + k) rfl
        obtain ⟨tt, htt⟩ : ∃ tt, tt = strOfNums ((bs.drop k).take l) := ⟨_, rfl⟩
        rw [← htt] at hcv ⊢
        clear htt
        go_enter Tryz.func260, Tryz.ntmps260
        go_wp2_with fail
        refine C1.out.mono ?_
        rintro e w1 ⟨rfl, rfl⟩
        unfold three
        go_wp2_with fail
        (try simp only [Exit.inBlock, Exit.then])
        refine bodyPost_ret (v := ansV (⟨2, 0, tt, false⟩, (k : Int) + (l : Int), 0)) ?_ rfl ⟨rfl, ?_⟩
        · unfold ansV; rw [res_cell3 rfl]; go_simp
        · repeat' (first | exact Below.refl _ _ | refine Below.setCell ?_ (by simp <;> omega) _ | refine Below.alloc ?_ (by simp <;> omega) _)
  · obtain ⟨er, he⟩ : ∃ er, er = (Nm.getL bs).2.2 := ⟨_, rfl⟩
    have hg : Nm.getL bs = (0, 0, er) := by
      rw [he]
      unfold Nm.getL at h0 ⊢
      split
      · rename_i q
        rw [if_pos q] at h0
        split
        · rfl
        · rename_i q2; rw [if_neg q2] at h0; exact absurd rfl h0
      · rfl
    rw [hg] at c1 h0 ⊢
    rw [if_pos h0]
    have C1 := Lib.hid c1
    have he' : (er != 0) = true := by simpa using h0
    clear c1 hg he h0 hS hS1 hB hl hcap hmx hb1
    go_enter Tryz.func260, Tryz.ntmps260
    go_wp2_with fail
    refine C1.out.mono ?_
    rintro e w1 ⟨rfl, rfl⟩
    unfold three
    go_wp2_with fail
    (try simp only [Exit.inBlock, Exit.then])
    refine bodyPost_ret (v := ansV (null, 0, er)) ?_ rfl ⟨rfl, ?_⟩
    · rw [ansV_null, res_cell3 rfl]; go_simp
    · repeat' (first | exact Below.refl _ _ | refine Below.setCell ?_ (by simp <;> omega) _ | refine Below.alloc ?_ (by simp <;> omega) _)
set_option maxHeartbeats 2000000 in
theorem Get_any (A : Option Addr) (n c : Nat) (bs : List Int) (kind : Int) (w : World) (hS : Wd.Sl w .u8 A n c bs) (hB : Nm.Byt bs) :
    Calls Tryz.prog 243 #[.slice A n c, .int .i64 kind] w fun e w' => e = .returned (ansV (Va.get bs kind)) ∧ Below w.heap.size w w' := by
  have hb1 := (Below.refl w.heap.size w).alloc (Nat.le_refl _) (.cells #[.int .i64 0, .int .i64 0, .string ⟨#[]⟩, .bool false] 47)
  have v0 : Vb (w.alloc (.cells #[.int .i64 0, .int .i64 0, .string ⟨#[]⟩, .bool false] 47)) w.heap.size 0 0 ⟨#[]⟩ false := Wd.Bx.new w _ _
  by_cases k0 : kind = 0
  · subst k0
    rw [show Va.get bs 0 = (null, 0, 0) from rfl]
    clear hb1 v0 hS hB
    go_enter Tryz.func243, Tryz.ntmps243
    go_wp2_with fail
    (try simp only [Exit.inBlock, Exit.then])
    refine bodyPost_ret (v := ansV (null, 0, 0)) ?_ rfl ⟨rfl, ?_⟩
    · rw [ansV_null, res_cell3 rfl]; go_simp
    · repeat' (first | exact Below.refl _ _ | refine Below.setCell ?_ (by simp <;> omega) _ | refine Below.alloc ?_ (by simp <;> omega) _)
  by_cases k1 : kind = 1
  · subst k1
    have c1 := getInt_any A n c bs _ (hS.below hb1) hB
    obtain ⟨kk, ii, ss, bb, m, er, hg⟩ : ∃ kk ii ss bb m er, Va.get bs 1 = (⟨kk, ii, ss, bb⟩, m, er) := ⟨_, _, _, _, _, _, rfl⟩
    rw [hg] at c1 ⊢
    have C1 := Lib.hid c1
    clear c1 hg hS hB
    go_enter Tryz.func243, Tryz.ntmps243
    go_wp2_with fail
    refine C1.out.mono ?_
    rintro e w1 ⟨rfl, hB1⟩
    have v1 := v0.below (Wd.Bx.lt v0) hB1
    obtain ⟨⟨u0, u1, u2, u3⟩, f0, f1, f2, f3⟩ := four v1
    have hW1 := hb1.trans (hB1.mono hb1.size)
    clear v0 hB1 hb1 v1
    unfold ansV
    go_wp2_with fail
    (try simp only [Exit.inBlock, Exit.then])
    refine bodyPost_ret (v := ansV (⟨kk, ii, ss, bb⟩, m, er)) ?_ rfl ⟨rfl, ?_⟩
    · unfold ansV; rw [res_cell3 rfl]; go_simp
    · repeat' (first | exact hW1 | exact Below.refl _ _ | refine Below.setCell ?_ (by simp <;> omega) _ | refine Below.alloc ?_ (by simp <;> omega) _)
  by_cases k2 : kind = 2
  · subst k2
    have c1 := getStr_any A n c bs _ (hS.below hb1) hB
    obtain ⟨kk, ii, ss, bb, m, er, hg⟩ : ∃ kk ii ss bb m er, Va.get bs 2 = (⟨kk, ii, ss, bb⟩, m, er) := ⟨_, _, _, _, _, _, rfl⟩
    rw [hg] at c1 ⊢
    have C1 := Lib.hid c1
    clear c1 hg hS hB
    go_enter Tryz.func243, Tryz.ntmps243
    go_wp2_with fail
    refine C1.out.mono ?_
    rintro e w1 ⟨rfl, hB1⟩
    have v1 := v0.below (Wd.Bx.lt v0) hB1
    obtain ⟨⟨u0, u1, u2, u3⟩, f0, f1, f2, f3⟩ := four v1
    have hW1 := hb1.trans (hB1.mono hb1.size)
    clear v0 hB1 hb1 v1
    unfold ansV
    go_wp2_with fail
    (try simp only [Exit.inBlock, Exit.then])
    refine bodyPost_ret (v := ansV (⟨kk, ii, ss, bb⟩, m, er)) ?_ rfl ⟨rfl, ?_⟩
    · unfold ansV; rw [res_cell3 rfl]; go_simp
    · repeat' (first | exact hW1 | exact Below.refl _ _ | refine Below.setCell ?_ (by simp <;> omega) _ | refine Below.alloc ?_ (by simp <;> omega) _)
  by_cases k3 : kind = 3
  · subst k3
    have c1 := getBool_any A n c bs _ (hS.below hb1) hB
    obtain ⟨kk, ii, ss, bb, m, er, hg⟩ : ∃ kk ii ss bb m er, Va.get bs 3 = (⟨kk, ii, ss, bb⟩, m, er) := ⟨_, _, _, _, _, _, rfl⟩
    rw [hg] at c1 ⊢
    have C1 := Lib.hid c1
    clear c1 hg hS hB
    go_enter Tryz.func243, Tryz.ntmps243
    go_wp2_with fail
    refine C1.out.mono ?_
    rintro e w1 ⟨rfl, hB1⟩
    have v1 := v0.below (Wd.Bx.lt v0) hB1
    obtain ⟨⟨u0, u1, u2, u3⟩, f0, f1, f2, f3⟩ := four v1
    have hW1 := hb1.trans (hB1.mono hb1.size)
    clear v0 hB1 hb1 v1
    unfold ansV
    go_wp2_with fail
    (try simp only [Exit.inBlock, Exit.then])
    refine bodyPost_ret (v := ansV (⟨kk, ii, ss, bb⟩, m, er)) ?_ rfl ⟨rfl, ?_⟩
    · unfold ansV; rw [res_cell3 rfl]; go_simp
    · repeat' (first | exact hW1 | exact Below.refl _ _ | refine Below.setCell ?_ (by simp <;> omega) _ | refine Below.alloc ?_ (by simp <;> omega) _)
  · have hg : Va.get bs kind = (null, 0, 1) := by unfold Va.get; rw [if_neg k0, if_neg k1, if_neg k2, if_neg k3]
    rw [hg]
    have q0 : (kind == 0) = false := by simpa using k0
    have q1 : (kind == 1) = false := by simpa using k1
    have q2 : (kind == 2) = false := by simpa using k2
    have q3 : (kind == 3) = false := by simpa using k3
    clear hb1 v0 hS hB k0 k1 k2 k3 hg
    go_enter Tryz.func243, Tryz.ntmps243
    go_wp2_with fail
    (try simp only [Exit.inBlock, Exit.then])
    refine bodyPost_ret (v := ansV (null, 0, 1)) ?_ rfl ⟨rfl, ?_⟩
    · rw [ansV_null, res_cell3 rfl]; go_simp
    · repeat' (first | exact Below.refl _ _ | refine Below.setCell ?_ (by simp <;> omega) _ | refine Below.alloc ?_ (by simp <;> omega) _)
end Vc
namespace Vc
open Va Nc
set_option maxHeartbeats 16000000 in
theorem Any_any (A : Option Addr) (n c : Nat) (bs : List Int) (w : World) (hS : Wd.Sl w .u8 A n c bs) (hB : Nm.Byt bs) :
    Calls Tryz.prog 203 #[.slice A n c] w fun e w' => e = .returned (ansV (Va.any bs)) ∧ Below w.heap.size w w' := by
  have hb1 := (Below.refl w.heap.size w).alloc (Nat.le_refl _) (.cells #[.int .i64 0, .int .i64 0, .string ⟨#[]⟩, .bool false] 47)
  have v0 : Vb (w.alloc (.cells #[.int .i64 0, .int .i64 0, .string ⟨#[]⟩, .bool false] 47)) w.heap.size 0 0 ⟨#[]⟩ false := Wd.Bx.new w _ _
  have hl := hS.len
  cases bs with
  | nil =>
    rw [show Va.any [] = (null, 0, 6) from rfl]
    simp only [List.length_nil] at hl
    subst hl
    clear hb1 v0 hS hB
    go_enter Tryz.func203, Tryz.ntmps203
    go_wp2_with fail
    (try simp only [Exit.inBlock, Exit.then])
    refine bodyPost_ret (v := ansV (null, 0, 6)) ?_ rfl ⟨rfl, ?_⟩
    · rw [ansV_null, res_cell3 rfl]; go_simp
    · repeat' (first | exact Below.refl _ _ | refine Below.setCell ?_ (by simp <;> omega) _ | refine Below.alloc ?_ (by simp <;> omega) _)
  | cons x r =>
    have hx := hB x (by simp)
    have hS1 := hS.cut 1 (by rw [hl]; simp)
    simp only [List.drop_succ_cons, List.drop_zero] at hS1
    obtain ⟨b, o, rfl, hbB, hcell0⟩ := hS.rd 0 (by simp)
    have hcell := (hb1.cell (p := ⟨b, o + 0, none⟩) hbB).trans hcell0
    simp only [Nat.add_zero, List.getD_cons_zero] at hcell
    have hn : 0 < n := by rw [hl]; simp
    have hnI : (0 : Int) < (n : Int) := by omega
    have hn0 : ((n : Int) == 0) = false := by simp; omega
    have hnJ : (1 : Int) ≤ (n : Int) := by omega
    have hr : Va.any (x :: r) = if 3 < x then (null, 0, 7) else if (Va.get r x).2.2 = 0 then ((Va.get r x).1, (Va.get r x).2.1 + 1, 0) else (null, 0, (Va.get r x).2.2) := rfl
    rw [hr]
    have hcap := hS.cap
    have hmx := hS.max
    unfold maxLen at hmx
    clear hr hcell0 hl
    by_cases h3 : 3 < x
    · rw [if_pos h3]
      clear hb1 v0 hS hB hS1
      go_enter Tryz.func203, Tryz.ntmps203
      go_wp2_with fail
      (try simp only [Exit.inBlock, Exit.then])
      refine bodyPost_ret (v := ansV (null, 0, 7)) ?_ rfl ⟨rfl, ?_⟩
      · rw [ansV_null, res_cell3 rfl]; go_simp
      · repeat' (first | exact Below.refl _ _ | refine Below.setCell ?_ (by simp <;> omega) _ | refine Below.alloc ?_ (by simp <;> omega) _)
    rw [if_neg h3]
    have Cg := Lib.hid fun w' (hb : Below w.heap.size w w') => Get_any _ (n - 1) (c - 1) r x w' (hS1.below hb) (fun y hy => hB y (List.mem_cons_of_mem _ hy))
    obtain ⟨kk, ii, ss, bb, m, er, hg⟩ : ∃ kk ii ss bb m er, Va.get r x = (⟨kk, ii, ss, bb⟩, m, er) := ⟨_, _, _, _, _, _, rfl⟩
    have hmb : er = 0 → wrap64 (1 + m) = m + 1 := fun h => by
      obtain ⟨y, j, e, -, -, hj, -⟩ := get_only (fun y hy => hB y (List.mem_cons_of_mem _ hy)) x (show (Va.get r x).2.2 = 0 by rw [hg]; exact h)
      have em : m = (j : Int) := by
        have := congrArg (fun p : Vl × Int × Int => p.2.1) (hg.symm.trans e)
        exact this
      have hrl : r.length + 1 = n := by have := hS.len; simpa using this.symm
      unfold wrap64
      omega
    rw [hg] at Cg ⊢
    obtain ⟨R, hR⟩ : ∃ R, R = if er = 0 then (((⟨kk, ii, ss, bb⟩ : Vl), m + 1, 0) : Vl × Int × Int) else (null, 0, er) := ⟨_, rfl⟩
    have HR := Lib.hid hR
    simp only []
    rw [← hR]
    clear hR
    rw [Option.map_some, Addr.add_lit] at Cg
    have hwx : IntKind.i64.wrap x = x := IntWalk.i64_in _ (by omega)
    clear hg hS hB hS1
    by_cases hc : c = 1
    · subst hc
      rw [if_pos rfl, show n - 1 = 0 by omega, show (1 : Nat) - 1 = 0 from rfl] at Cg
      have hbB' := Nat.lt_of_lt_of_le hbB hb1.size
      go_enter Tryz.func203, Tryz.ntmps203
      go_upto_region 5 with fail
      generalize w.alloc (.cells #[.int .i64 0, .int .i64 0, .string ⟨#[]⟩, .bool false] 47) = w1 at *
      have hl1 := Wd.Bx.lt v0
      go_cut [5, 6, 7] (fun p q e wx => ∃ g, p = .pointer (some ⟨g, 0, none⟩) ∧ q = .int .i64 m ∧ e = .int .i64 er ∧ Vb wx g kk ii ss bb ∧ Vb wx w.heap.size 0 0 ⟨#[]⟩ false ∧ w.heap.size < g ∧ Below w.heap.size w wx)
      case first =>
        have hbd := hb1.drew
        have hbe := (hb1.alloc hb1.size (.cells #[.int .i64 0, .int .i64 0, .string ⟨#[]⟩, .bool false] 47)).drew
        have hba := (Below.refl w1.heap.size w1).alloc (Nat.le_refl _) (.cells #[.int .i64 0, .int .i64 0, .string ⟨#[]⟩, .bool false] 47)
        unfold ansV at Cg
        have hcA := (hba.cell (p := ⟨b, o, none⟩) hbB').trans hcell
        go_region_with (first | (go_at_call 243; (with_reducible refine (Cg.out w1.drew hbd).mono ?_); rintro e w2 ⟨rfl, hB2⟩; have hb2 : Below w1.heap.size w1 w2 := Wd.of_drew hB2; have hz2 := hb2.size; have hv2 := v0.below hl1 hb2) | (go_at_call 243; (with_reducible refine (Cg.out (w1.alloc (.cells #[.int .i64 0, .int .i64 0, .string ⟨#[]⟩, .bool false] 47)).drew hbe).mono ?_); rintro e w2 ⟨rfl, hB2⟩; have hbb2 : Below (w1.alloc (.cells #[.int .i64 0, .int .i64 0, .string ⟨#[]⟩, .bool false] 47)).heap.size (w1.alloc (.cells #[.int .i64 0, .int .i64 0, .string ⟨#[]⟩, .bool false] 47)) w2 := Wd.of_drew hB2; have hb2 : Below w1.heap.size w1 w2 := hba.trans (hbb2.mono hba.size); have hz2 := hb2.size; have hv2 := v0.below hl1 hb2; have hy2 := Wd.Bx.below (Wd.Bx.new w1 47 #[.int .i64 0, .int .i64 0, .string ⟨#[]⟩, .bool false]) (by simp) hbb2; obtain ⟨⟨_, _, _, _⟩, _, _, _, _⟩ := four hy2))
        all_goals (go_wp2_with fail; go_meet)
        all_goals first
          | exact ⟨_, rfl, rfl, rfl, Vb.set hy2, Vb.other hv2 (Nat.ne_of_lt hl1), hl1, below_setV (hb1.trans (hb2.mono hb1.size)) hb1.size⟩
          | exact ⟨_, rfl, rfl, rfl, Wd.Bx.new w2 _ _, Wd.Bx.alloc hv2 _, Nat.lt_of_lt_of_le hl1 hb2.size, (hb1.trans (hb2.mono hb1.size)).alloc (Nat.le_trans hb1.size hb2.size) _⟩
      case rest =>
        obtain ⟨g, rfl, rfl, rfl, y1, y0, hgl, hbx⟩ := hcut
        obtain ⟨⟨c0, c1, c2, c3⟩, f0, f1, f2, f3⟩ := four y0
        obtain ⟨⟨c4, c5, c6, c7⟩, -⟩ := four y1
        by_cases he : er = 0
        · subst he
          have hw := hmb rfl
          rw [if_pos rfl] at HR
          go_wp2_with fail
          (try simp only [Exit.inBlock, Exit.then])
          refine bodyPost_ret (v := ansV R) ?_ rfl ⟨rfl, ?_⟩
          · rw [HR.out]; unfold ansV; rw [res_cell3 rfl]; go_simp
          · exact below_setV hbx (Nat.le_refl _)
        · rw [if_neg he] at HR
          have he' : (er != 0) = true := by simpa using he
          go_wp2_with fail
          (try simp only [Exit.inBlock, Exit.then])
          refine bodyPost_ret (v := ansV R) ?_ rfl ⟨rfl, ?_⟩
          · rw [HR.out, ansV_null, res_cell3 rfl]; go_simp
          · exact below_setV hbx (Nat.le_refl _)
    · rw [if_neg hc] at Cg
      have hbB' := Nat.lt_of_lt_of_le hbB hb1.size
      go_enter Tryz.func203, Tryz.ntmps203
      go_upto_region 5 with fail
      generalize w.alloc (.cells #[.int .i64 0, .int .i64 0, .string ⟨#[]⟩, .bool false] 47) = w1 at *
      have hl1 := Wd.Bx.lt v0
      go_cut [5, 6, 7] (fun p q e wx => ∃ g, p = .pointer (some ⟨g, 0, none⟩) ∧ q = .int .i64 m ∧ e = .int .i64 er ∧ Vb wx g kk ii ss bb ∧ Vb wx w.heap.size 0 0 ⟨#[]⟩ false ∧ w.heap.size < g ∧ Below w.heap.size w wx)
      case first =>
        have hbd := hb1.drew
        have hbe := (hb1.alloc hb1.size (.cells #[.int .i64 0, .int .i64 0, .string ⟨#[]⟩, .bool false] 47)).drew
        have hba := (Below.refl w1.heap.size w1).alloc (Nat.le_refl _) (.cells #[.int .i64 0, .int .i64 0, .string ⟨#[]⟩, .bool false] 47)
        unfold ansV at Cg
        have hcA := (hba.cell (p := ⟨b, o, none⟩) hbB').trans hcell
        go_region_with (first | (go_at_call 243; (with_reducible refine (Cg.out w1.drew hbd).mono ?_); rintro e w2 ⟨rfl, hB2⟩; have hb2 : Below w1.heap.size w1 w2 := Wd.of_drew hB2; have hz2 := hb2.size; have hv2 := v0.below hl1 hb2) | (go_at_call 243; (with_reducible refine (Cg.out (w1.alloc (.cells #[.int .i64 0, .int .i64 0, .string ⟨#[]⟩, .bool false] 47)).drew hbe).mono ?_); rintro e w2 ⟨rfl, hB2⟩; have hbb2 : Below (w1.alloc (.cells #[.int .i64 0, .int .i64 0, .string ⟨#[]⟩, .bool false] 47)).heap.size (w1.alloc (.cells #[.int .i64 0, .int .i64 0, .string ⟨#[]⟩, .bool false] 47)) w2 := Wd.of_drew hB2; have hb2 : Below w1.heap.size w1 w2 := hba.trans (hbb2.mono hba.size); have hz2 := hb2.size; have hv2 := v0.below hl1 hb2; have hy2 := Wd.Bx.below (Wd.Bx.new w1 47 #[.int .i64 0, .int .i64 0, .string ⟨#[]⟩, .bool false]) (by simp) hbb2; obtain ⟨⟨_, _, _, _⟩, _, _, _, _⟩ := four hy2))
        all_goals (go_wp2_with fail; go_meet)
        all_goals first
          | exact ⟨_, rfl, rfl, rfl, Vb.set hy2, Vb.other hv2 (Nat.ne_of_lt hl1), hl1, below_setV (hb1.trans (hb2.mono hb1.size)) hb1.size⟩
          | exact ⟨_, rfl, rfl, rfl, Wd.Bx.new w2 _ _, Wd.Bx.alloc hv2 _, Nat.lt_of_lt_of_le hl1 hb2.size, (hb1.trans (hb2.mono hb1.size)).alloc (Nat.le_trans hb1.size hb2.size) _⟩
      case rest =>
        obtain ⟨g, rfl, rfl, rfl, y1, y0, hgl, hbx⟩ := hcut
        obtain ⟨⟨c0, c1, c2, c3⟩, f0, f1, f2, f3⟩ := four y0
        obtain ⟨⟨c4, c5, c6, c7⟩, -⟩ := four y1
        by_cases he : er = 0
        · subst he
          have hw := hmb rfl
          rw [if_pos rfl] at HR
          go_wp2_with fail
          (try simp only [Exit.inBlock, Exit.then])
          refine bodyPost_ret (v := ansV R) ?_ rfl ⟨rfl, ?_⟩
          · rw [HR.out]; unfold ansV; rw [res_cell3 rfl]; go_simp
          · exact below_setV hbx (Nat.le_refl _)
        · rw [if_neg he] at HR
          have he' : (er != 0) = true := by simpa using he
          go_wp2_with fail
          (try simp only [Exit.inBlock, Exit.then])
          refine bodyPost_ret (v := ansV R) ?_ rfl ⟨rfl, ?_⟩
          · rw [HR.out, ansV_null, res_cell3 rfl]; go_simp
          · exact below_setV hbx (Nat.le_refl _)
end Vc
end Go.Proofs.YtaoeipehpakngaaGreatDoor
