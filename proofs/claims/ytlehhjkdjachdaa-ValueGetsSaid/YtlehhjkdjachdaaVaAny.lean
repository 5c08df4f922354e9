/- What value.Any does. -/
import Derived.Test.YtlehhjkdjachdaaVaGet
import Derived.Deep.RegionHeld3
import Derived.Deep.RegionWith
import Derived.Deep.DeepCutAuto
namespace Go.Proofs.Ytlehhjkdjachdaa
open Go.RowKit
namespace Vc
open Va Nc
set_option maxHeartbeats 16000000 in
theorem Any_any (A : Option Addr) (n c : Nat) (bs : List Int) (w : World) (hS : Wd.Sl w .u8 A n c bs) (hB : Nm.Byt bs) :
    Calls Try.prog 18 #[.slice A n c] w fun e w' => e = .returned (ansV (Va.any bs)) ∧ Below w.heap.size w w' := by
  have hb1 := (Below.refl w.heap.size w).alloc (Nat.le_refl _) (.cells #[.int .i64 0, .int .i64 0, .string ⟨#[]⟩, .bool false] 23)
  have v0 : Vb (w.alloc (.cells #[.int .i64 0, .int .i64 0, .string ⟨#[]⟩, .bool false] 23)) w.heap.size 0 0 ⟨#[]⟩ false := Wd.Bx.new w _ _
  have hl := hS.len
  cases bs with
  | nil =>
    rw [show Va.any [] = (null, 0, 6) from rfl]
    simp only [List.length_nil] at hl
    subst hl
    clear hb1 v0 hS hB
    go_enter Try.func18, Try.ntmps18
    go_wp2_with fail
    (try simp only [Exit.inBlock, Exit.then])
    refine bodyPost_ret (v := ansV (null, 0, 6)) ?_ rfl ⟨rfl, ?_⟩
    · rw [ansV_null, res_cell3 rfl]; go_simp
    · repeat' (first | exact Below.refl _ _ | refine Below.setCell ?_ (by simp <;> omega) _ | refine Below.alloc ?_ (by simp <;> omega) _)
  | cons x r =>
    have hx := hB x (by simp)
    have hS1 := hS.cut 1 (by rw [hl]; simp)
    simp only [List.drop_succ_cons, List.drop_zero] at hS1
    obtain ⟨b, o, rfl, hbB, hcell0⟩ := hS.rd 0 (by simp)
    have hcell := (hb1.cell (p := ⟨b, o + 0, none⟩) hbB).trans hcell0
    simp only [Nat.add_zero, List.getD_cons_zero] at hcell
    have hn : 0 < n := by rw [hl]; simp
    have hnI : (0 : Int) < (n : Int) := by omega
    have hn0 : ((n : Int) == 0) = false := by simp; omega
    have hnJ : (1 : Int) ≤ (n : Int) := by omega
    have hr : Va.any (x :: r) = if 3 < x then (null, 0, 7) else if (Va.get r x).2.2 = 0 then ((Va.get r x).1, (Va.get r x).2.1 + 1, 0) else (null, 0, (Va.get r x).2.2) := rfl
    rw [hr]
    have hcap := hS.cap
    have hmx := hS.max
    unfold maxLen at hmx
    clear hr hcell0 hl
    by_cases h3 : 3 < x
    · rw [if_pos h3]
      clear hb1 v0 hS hB hS1
      go_enter Try.func18, Try.ntmps18
      go_wp2_with fail
      (try simp only [Exit.inBlock, Exit.then])
      refine bodyPost_ret (v := ansV (null, 0, 7)) ?_ rfl ⟨rfl, ?_⟩
      · rw [ansV_null, res_cell3 rfl]; go_simp
      · repeat' (first | exact Below.refl _ _ | refine Below.setCell ?_ (by simp <;> omega) _ | refine Below.alloc ?_ (by simp <;> omega) _)
    rw [if_neg h3]
    have Cg := Lib.hid fun w' (hb : Below w.heap.size w w') => Get_any _ (n - 1) (c - 1) r x w' (hS1.below hb) (fun y hy => hB y (List.mem_cons_of_mem _ hy))
    obtain ⟨kk, ii, ss, bb, m, er, hg⟩ : ∃ kk ii ss bb m er, Va.get r x = (⟨kk, ii, ss, bb⟩, m, er) := ⟨_, _, _, _, _, _, rfl⟩
    have hmb : er = 0 → wrap64 (1 + m) = m + 1 := fun h => by
      obtain ⟨y, j, e, -, -, hj, -⟩ := get_only (fun y hy => hB y (List.mem_cons_of_mem _ hy)) x (show (Va.get r x).2.2 = 0 by rw [hg]; exact h)
      have em : m = (j : Int) := by
        have := congrArg (fun p : Vl × Int × Int => p.2.1) (hg.symm.trans e)
        exact this
      have hrl : r.length + 1 = n := by have := hS.len; simpa using this.symm
      unfold wrap64
      omega
    rw [hg] at Cg ⊢
    obtain ⟨R, hR⟩ : ∃ R, R = if er = 0 then (((⟨kk, ii, ss, bb⟩ : Vl), m + 1, 0) : Vl × Int × Int) else (null, 0, er) := ⟨_, rfl⟩
    have HR := Lib.hid hR
    simp only []
    rw [← hR]
    clear hR
    rw [Option.map_some, Addr.add_lit] at Cg
    have hwx : IntKind.i64.wrap x = x := IntWalk.i64_in _ (by omega)
    clear hg hS hB hS1
    by_cases hc : c = 1
    · subst hc
      rw [if_pos rfl, show n - 1 = 0 by omega, show (1 : Nat) - 1 = 0 from rfl] at Cg
      have hbB' := Nat.lt_of_lt_of_le hbB hb1.size
      go_enter Try.func18, Try.ntmps18
      go_upto_region 5 with fail
      generalize w.alloc (.cells #[.int .i64 0, .int .i64 0, .string ⟨#[]⟩, .bool false] 23) = w1 at *
      have hl1 := Wd.Bx.lt v0
      go_cut [5, 6, 7] (fun p q e wx => ∃ g, p = .pointer (some ⟨g, 0, none⟩) ∧ q = .int .i64 m ∧ e = .int .i64 er ∧ Vb wx g kk ii ss bb ∧ Vb wx w.heap.size 0 0 ⟨#[]⟩ false ∧ w.heap.size < g ∧ Below w.heap.size w wx)
      case first =>
        have hbd := hb1.drew
        have hbe := (hb1.alloc hb1.size (.cells #[.int .i64 0, .int .i64 0, .string ⟨#[]⟩, .bool false] 23)).drew
        have hba := (Below.refl w1.heap.size w1).alloc (Nat.le_refl _) (.cells #[.int .i64 0, .int .i64 0, .string ⟨#[]⟩, .bool false] 23)
        unfold ansV at Cg
        have hcA := (hba.cell (p := ⟨b, o, none⟩) hbB').trans hcell
        go_region_with (first | (go_at_call 16; (with_reducible refine (Cg.out w1.drew hbd).mono ?_); rintro e w2 ⟨rfl, hB2⟩; have hb2 : Below w1.heap.size w1 w2 := Wd.of_drew hB2; have hz2 := hb2.size; have hv2 := v0.below hl1 hb2) | (go_at_call 16; (with_reducible refine (Cg.out (w1.alloc (.cells #[.int .i64 0, .int .i64 0, .string ⟨#[]⟩, .bool false] 23)).drew hbe).mono ?_); rintro e w2 ⟨rfl, hB2⟩; have hbb2 : Below (w1.alloc (.cells #[.int .i64 0, .int .i64 0, .string ⟨#[]⟩, .bool false] 23)).heap.size (w1.alloc (.cells #[.int .i64 0, .int .i64 0, .string ⟨#[]⟩, .bool false] 23)) w2 := Wd.of_drew hB2; have hb2 : Below w1.heap.size w1 w2 := hba.trans (hbb2.mono hba.size); have hz2 := hb2.size; have hv2 := v0.below hl1 hb2; have hy2 := Wd.Bx.below (Wd.Bx.new w1 23 #[.int .i64 0, .int .i64 0, .string ⟨#[]⟩, .bool false]) (by simp) hbb2; obtain ⟨⟨_, _, _, _⟩, _, _, _, _⟩ := four hy2))
        all_goals (go_wp2_with fail; go_meet)
        all_goals first
          | exact ⟨_, rfl, rfl, rfl, Vb.set hy2, Vb.other hv2 (Nat.ne_of_lt hl1), hl1, below_setV (hb1.trans (hb2.mono hb1.size)) hb1.size⟩
          | exact ⟨_, rfl, rfl, rfl, Wd.Bx.new w2 _ _, Wd.Bx.alloc hv2 _, Nat.lt_of_lt_of_le hl1 hb2.size, (hb1.trans (hb2.mono hb1.size)).alloc (Nat.le_trans hb1.size hb2.size) _⟩
      case rest =>
        obtain ⟨g, rfl, rfl, rfl, y1, y0, hgl, hbx⟩ := hcut
        obtain ⟨⟨c0, c1, c2, c3⟩, f0, f1, f2, f3⟩ := four y0
        obtain ⟨⟨c4, c5, c6, c7⟩, -⟩ := four y1
        by_cases he : er = 0
        · subst he
          have hw := hmb rfl
          rw [if_pos rfl] at HR
          go_wp2_with fail
          (try simp only [Exit.inBlock, Exit.then])
          refine bodyPost_ret (v := ansV R) ?_ rfl ⟨rfl, ?_⟩
          · rw [HR.out]; unfold ansV; rw [res_cell3 rfl]; go_simp
          · exact below_setV hbx (Nat.le_refl _)
        · rw [if_neg he] at HR
          have he' : (er != 0) = true := by simpa using he
          go_wp2_with fail
          (try simp only [Exit.inBlock, Exit.then])
          refine bodyPost_ret (v := ansV R) ?_ rfl ⟨rfl, ?_⟩
          · rw [HR.out, ansV_null, res_cell3 rfl]; go_simp
          · exact below_setV hbx (Nat.le_refl _)
    · rw [if_neg hc] at Cg
      have hbB' := Nat.lt_of_lt_of_le hbB hb1.size
      go_enter Try.func18, Try.ntmps18
      go_upto_region 5 with fail
      generalize w.alloc (.cells #[.int .i64 0, .int .i64 0, .string ⟨#[]⟩, .bool false] 23) = w1 at *
      have hl1 := Wd.Bx.lt v0
      go_cut [5, 6, 7] (fun p q e wx => ∃ g, p = .pointer (some ⟨g, 0, none⟩) ∧ q = .int .i64 m ∧ e = .int .i64 er ∧ Vb wx g kk ii ss bb ∧ Vb wx w.heap.size 0 0 ⟨#[]⟩ false ∧ w.heap.size < g ∧ Below w.heap.size w wx)
      case first =>
        have hbd := hb1.drew
        have hbe := (hb1.alloc hb1.size (.cells #[.int .i64 0, .int .i64 0, .string ⟨#[]⟩, .bool false] 23)).drew
        have hba := (Below.refl w1.heap.size w1).alloc (Nat.le_refl _) (.cells #[.int .i64 0, .int .i64 0, .string ⟨#[]⟩, .bool false] 23)
        unfold ansV at Cg
        have hcA := (hba.cell (p := ⟨b, o, none⟩) hbB').trans hcell
        go_region_with (first | (go_at_call 16; (with_reducible refine (Cg.out w1.drew hbd).mono ?_); rintro e w2 ⟨rfl, hB2⟩; have hb2 : Below w1.heap.size w1 w2 := Wd.of_drew hB2; have hz2 := hb2.size; have hv2 := v0.below hl1 hb2) | (go_at_call 16; (with_reducible refine (Cg.out (w1.alloc (.cells #[.int .i64 0, .int .i64 0, .string ⟨#[]⟩, .bool false] 23)).drew hbe).mono ?_); rintro e w2 ⟨rfl, hB2⟩; have hbb2 : Below (w1.alloc (.cells #[.int .i64 0, .int .i64 0, .string ⟨#[]⟩, .bool false] 23)).heap.size (w1.alloc (.cells #[.int .i64 0, .int .i64 0, .string ⟨#[]⟩, .bool false] 23)) w2 := Wd.of_drew hB2; have hb2 : Below w1.heap.size w1 w2 := hba.trans (hbb2.mono hba.size); have hz2 := hb2.size; have hv2 := v0.below hl1 hb2; have hy2 := Wd.Bx.below (Wd.Bx.new w1 23 #[.int .i64 0, .int .i64 0, .string ⟨#[]⟩, .bool false]) (by simp) hbb2; obtain ⟨⟨_, _, _, _⟩, _, _, _, _⟩ := four hy2))
        all_goals (go_wp2_with fail; go_meet)
        all_goals first
          | exact ⟨_, rfl, rfl, rfl, Vb.set hy2, Vb.other hv2 (Nat.ne_of_lt hl1), hl1, below_setV (hb1.trans (hb2.mono hb1.size)) hb1.size⟩
          | exact ⟨_, rfl, rfl, rfl, Wd.Bx.new w2 _ _, Wd.Bx.alloc hv2 _, Nat.lt_of_lt_of_le hl1 hb2.size, (hb1.trans (hb2.mono hb1.size)).alloc (Nat.le_trans hb1.size hb2.size) _⟩
      case rest =>
        obtain ⟨g, rfl, rfl, rfl, y1, y0, hgl, hbx⟩ := hcut
        obtain ⟨⟨c0, c1, c2, c3⟩, f0, f1, f2, f3⟩ := four y0
        obtain ⟨⟨c4, c5, c6, c7⟩, -⟩ := four y1
        by_cases he : er = 0
        · subst he
          have hw := hmb rfl
          rw [if_pos rfl] at HR
          go_wp2_with fail
          (try simp only [Exit.inBlock, Exit.then])
          refine bodyPost_ret (v := ansV R) ?_ rfl ⟨rfl, ?_⟩
          · rw [HR.out]; unfold ansV; rw [res_cell3 rfl]; go_simp
          · exact below_setV hbx (Nat.le_refl _)
        · rw [if_neg he] at HR
          have he' : (er != 0) = true := by simpa using he
          go_wp2_with fail
          (try simp only [Exit.inBlock, Exit.then])
          refine bodyPost_ret (v := ansV R) ?_ rfl ⟨rfl, ?_⟩
          · rw [HR.out, ansV_null, res_cell3 rfl]; go_simp
          · exact below_setV hbx (Nat.le_refl _)
end Vc
end Go.Proofs.Ytlehhjkdjachdaa
