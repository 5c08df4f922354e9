/- What value.Any does. Package column: getCount, getDict of what was written; bytesFor; bytes.Clone. Package column: Get of what was written. -/
import Derived.Deep.RegionHeld3
import Derived.Deep.RegionWith
import Derived.Deep.DeepCutAuto
import Derived.Test.YtaoeipehpakngaaGreatDoorPa29
import Derived.Test.YtaoeipehpakngaaGreatDoorPa20
import Derived.Test.YtaoeipehpakngaaGreatDoorPa24
import Derived.Test.YtaoeipehpakngaaGreatDoorPa25
import Derived.Test.YtaoeipehpakngaaGreatDoorPa02
import Derived.Test.YtaoeipehpakngaaGreatDoorPa18
namespace Go.Proofs.YtaoeipehpakngaaGreatDoor
set_option maxRecDepth 20000
open Go.RowKit
namespace Vc
open Va Nc
set_option maxHeartbeats 16000000 in
theorem Any_any (A : Option Addr) (n c : Nat) (bs : List Int) (w : World) (hS : Wd.Sl w .u8 A n c bs) (hB : Nm.Byt bs) :
    Calls Tryz.prog 203 #[.slice A n c] w fun e w' => e = .returned (ansV (Va.any bs)) ∧ Below w.heap.size w w' := by
  have hb1 := (Below.refl w.heap.size w).alloc (Nat.le_refl _) (.cells #[.int .i64 0, .int .i64 0, .string ⟨#[]⟩, .bool false] 47)
  have v0 : Vb (w.alloc (.cells #[.int .i64 0, .int .i64 0, .string ⟨#[]⟩, .bool false] 47)) w.heap.size 0 0 ⟨#[]⟩ false := Wd.Bx.new w _ _
  have hl := hS.len
  cases bs with
  | nil =>
    rw [show Va.any [] = (null, 0, 6) from rfl]
    simp only [List.length_nil] at hl
    subst hl
    clear hb1 v0 hS hB
    go_enter Tryz.func203, Tryz.ntmps203
    go_wp2_with fail
    (try simp only [Exit.inBlock, Exit.then])
    refine bodyPost_ret (v := ansV (null, 0, 6)) ?_ rfl ⟨rfl, ?_⟩
    · rw [ansV_null, res_cell3 rfl]; go_simp
    · repeat' (first | exact Below.refl _ _ | refine Below.setCell ?_ (by simp <;> omega) _ | refine Below.alloc ?_ (by simp <;> omega) _)
  | cons x r =>
    have hx := hB x (by simp)
    have hS1 := hS.cut 1 (by rw [hl]; simp)
    simp only [List.drop_succ_cons, List.drop_zero] at hS1
    obtain ⟨b, o, rfl, hbB, hcell0⟩ := hS.rd 0 (by simp)
    have hcell := (hb1.cell (p := ⟨b, o + 0, none⟩) hbB).trans hcell0
    simp only [Nat.add_zero, List.getD_cons_zero] at hcell
    have hn : 0 < n := by rw [hl]; simp
    have hnI : (0 : Int) < (n : Int) := by omega
    have hn0 : ((n : Int) == 0) = false := by simp; omega
    have hnJ : (1 : Int) ≤ (n : Int) := by omega
    have hr : Va.any (x :: r) = if 3 < x then (null, 0, 7) else if (Va.get r x).2.2 = 0 then ((Va.get r x).1, (Va.get r x).2.1 + 1, 0) else (null, 0, (Va.get r x).2.2) := rfl
    rw [hr]
    have hcap := hS.cap
    have hmx := hS.max
    unfold maxLen at hmx
    clear hr hcell0 hl
    by_cases h3 : 3 < x
    · rw [if_pos h3]
      clear hb1 v0 hS hB hS1
      go_enter Tryz.func203, Tryz.ntmps203
      go_wp2_with fail
      (try simp only [Exit.inBlock, Exit.then])
      refine bodyPost_ret (v := ansV (null, 0, 7)) ?_ rfl ⟨rfl, ?_⟩
      · rw [ansV_null, res_cell3 rfl]; go_simp
      · repeat' (first | exact Below.refl _ _ | refine Below.setCell ?_ (by simp <;> omega) _ | refine Below.alloc ?_ (by simp <;> omega) _)
    rw [if_neg h3]
    have Cg := Lib.hid fun w' (hb : Below w.heap.size w w') => Get_any _ (n - 1) (c - 1) r x w' (hS1.below hb) (fun y hy => hB y (List.mem_cons_of_mem _ hy))
    obtain ⟨kk, ii, ss, bb, m, er, hg⟩ : ∃ kk ii ss bb m er, Va.get r x = (⟨kk, ii, ss, bb⟩, m, er) := ⟨_, _, _, _, _, _, rfl⟩
    have hmb : er = 0 → wrap64 (1 + m) = m + 1 := fun h => by
      obtain ⟨y, j, e, -, -, hj, -⟩ := get_only (fun y hy => hB y (List.mem_cons_of_mem _ hy)) x (show (Va.get r x).2.2 = 0 by rw [hg]; exact h)
      have em : m = (j : Int) := by
        have := congrArg (fun p : Vl × Int × Int => p.2.1) (hg.symm.trans e)
        exact this
      have hrl : r.length + 1 = n := by have := hS.len; simpa using this.symm
      unfold wrap64
      omega
    rw [hg] at Cg ⊢
    obtain ⟨R, hR⟩ : ∃ R, R = if er = 0 then (((⟨kk, ii, ss, bb⟩ : Vl), m + 1, 0) : Vl × Int × Int) else (null, 0, er) := ⟨_, rfl⟩
    have HR := Lib.hid hR
    simp only []
    rw [← hR]
    clear hR
    rw [Option.map_some, Addr.add_lit] at Cg
    have hwx : IntKind.i64.wrap x = x := IntWalk.i64_in _ (by omega)
    clear hg hS hB hS1
    by_cases hc : c = 1
    · subst hc
      rw [if_pos rfl, show n - 1 = 0 by omega, show (1 : Nat) - 1 = 0 from rfl] at Cg
      have hbB' := Nat.lt_of_lt_of_le hbB hb1.size
      go_enter Tryz.func203, Tryz.ntmps203
      go_upto_region 5 with fail
      generalize w.alloc (.cells #[.int .i64 0, .int .i64 0, .string ⟨#[]⟩, .bool false] 47) = w1 at *
      have hl1 := Wd.Bx.lt v0
      go_cut [5, 6, 7] (fun p q e wx => ∃ g, p = .pointer (some ⟨g, 0, none⟩) ∧ q = .int .i64 m ∧ e = .int .i64 er ∧ Vb wx g kk ii ss bb ∧ Vb wx w.heap.size 0 0 ⟨#[]⟩ false ∧ w.heap.size < g ∧ Below w.heap.size w wx)
      case first =>
        have hbd := hb1.drew
        have hbe := (hb1.alloc hb1.size (.cells #[.int .i64 0, .int .i64 0, .string ⟨#[]⟩, .bool false] 47)).drew
        have hba := (Below.refl w1.heap.size w1).alloc (Nat.le_refl _) (.cells #[.int .i64 0, .int .i64 0, .string ⟨#[]⟩, .bool false] 47)
        unfold ansV at Cg
        have hcA := (hba.cell (p := ⟨b, o, none⟩) hbB').trans hcell
        go_region_with (first | (go_at_call 243; (with_reducible refine (Cg.out w1.drew hbd).mono ?_); rintro e w2 ⟨rfl, hB2⟩; have hb2 : Below w1.heap.size w1 w2 := Wd.of_drew hB2; have hz2 := hb2.size; have hv2 := v0.below hl1 hb2) | (go_at_call 243; (with_reducible refine (Cg.out (w1.alloc (.cells #[.int .i64 0, .int .i64 0, .string ⟨#[]⟩, .bool false] 47)).drew hbe).mono ?_); rintro e w2 ⟨rfl, hB2⟩; have hbb2 : Below (w1.alloc (.cells #[.int .i64 0, .int .i64 0, .string ⟨#[]⟩, .bool false] 47)).heap.size (w1.alloc (.cells #[.int .i64 0, .int .i64 0, .string ⟨#[]⟩, .bool false] 47)) w2 := Wd.of_drew hB2; have hb2 : Below w1.heap.size w1 w2 := hba.trans (hbb2.mono hba.size); have hz2 := hb2.size; have hv2 := v0.below hl1 hb2; have hy2 := Wd.Bx.below (Wd.Bx.new w1 47 #[.int .i64 0, .int .i64 0, .string ⟨#[]⟩, .bool false]) (by simp) hbb2; obtain ⟨⟨_, _, _, _⟩, _, _, _, _⟩ := four hy2))
        all_goals (go_wp2_with fail; go_meet)
        all_goals first
          | exact ⟨_, rfl, rfl, rfl, Vb.set hy2, Vb.other hv2 (Nat.ne_of_lt hl1), hl1, below_setV (hb1.trans (hb2.mono hb1.size)) hb1.size⟩
          | exact ⟨_, rfl, rfl, rfl, Wd.Bx.new w2 _ _, Wd.Bx.alloc hv2 _, Nat.lt_of_lt_of_le hl1 hb2.size, (hb1.trans (hb2.mono hb1.size)).alloc (Nat.le_trans hb1.size hb2.size) _⟩
      case rest =>
        obtain ⟨g, rfl, rfl, rfl, y1, y0, hgl, hbx⟩ := hcut
        obtain ⟨⟨c0, c1, c2, c3⟩, f0, f1, f2, f3⟩ := four y0
        obtain ⟨⟨c4, c5, c6, c7⟩, -⟩ := four y1
        by_cases he : er = 0
        · subst he
          have hw := hmb rfl
          rw [if_pos rfl] at HR
          go_wp2_with fail
          (try simp only [Exit.inBlock, Exit.then])
          refine bodyPost_ret (v := ansV R) ?_ rfl ⟨rfl, ?_⟩
          · rw [HR.out]; unfold ansV; rw [res_cell3 rfl]; go_simp
          · exact below_setV hbx (Nat.le_refl _)
        · rw [if_neg he] at HR
          have he' : (er != 0) = true := by simpa using he
          go_wp2_with fail
          (try simp only [Exit.inBlock, Exit.then])
          refine bodyPost_ret (v := ansV R) ?_ rfl ⟨rfl, ?_⟩
          · rw [HR.out, ansV_null, res_cell3 rfl]; go_simp
          · exact below_setV hbx (Nat.le_refl _)
    · rw [if_neg hc] at Cg
      have hbB' := Nat.lt_of_lt_of_le hbB hb1.size
      go_enter Tryz.func203, Tryz.ntmps203
      go_upto_region 5 with fail
      generalize w.alloc (.cells #[.int .i64 0, .int .i64 0, .string ⟨#[]⟩, .bool false] 47) = w1 at *
      have hl1 := Wd.Bx.lt v0
      go_cut [5, 6, 7] (fun p q e wx => ∃ g, p = .pointer (some ⟨g, 0, none⟩) ∧ q = .int .i64 m ∧ e = .int .i64 er ∧ Vb wx g kk ii ss bb ∧ Vb wx w.heap.size 0 0 ⟨#[]⟩ false ∧ w.heap.size < g ∧ Below w.heap.size w wx)
      case first =>
        have hbd := hb1.drew
        have hbe := (hb1.alloc hb1.size (.cells #[.int .i64 0, .int .i64 0, .string ⟨#[]⟩, .bool false] 47)).drew
        have hba := (Below.refl w1.heap.size w1).alloc (Nat.le_refl _) (.cells #[.int .i64 0, .int .i64 0, .string ⟨#[]⟩, .bool false] 47)
        unfold ansV at Cg
        have hcA := (hba.cell (p := ⟨b, o, none⟩) hbB').trans hcell
        go_region_with (first | (go_at_call 243; (with_reducible refine (Cg.out w1.drew hbd).mono ?_); rintro e w2 ⟨rfl, hB2⟩; have hb2 : Below w1.heap.size w1 w2 := Wd.of_drew hB2; have hz2 := hb2.size; have hv2 := v0.below hl1 hb2) | (go_at_call 243; (with_reducible refine (Cg.out (w1.alloc (.cells #[.int .i64 0, .int .i64 0, .string ⟨#[]⟩, .bool false] 47)).drew hbe).mono ?_); rintro e w2 ⟨rfl, hB2⟩; have hbb2 : Below (w1.alloc (.cells #[.int .i64 0, .int .i64 0, .string ⟨#[]⟩, .bool false] 47)).heap.size (w1.alloc (.cells #[.int .i64 0, .int .i64 0, .string ⟨#[]⟩, .bool false] 47)) w2 := Wd.of_drew hB2; have hb2 : Below w1.heap.size w1 w2 := hba.trans (hbb2.mono hba.size); have hz2 := hb2.size; have hv2 := v0.below hl1 hb2; have hy2 := Wd.Bx.below (Wd.Bx.new w1 47 #[.int .i64 0, .int .i64 0, .string ⟨#[]⟩, .bool false]) (by simp) hbb2; obtain ⟨⟨_, _, _, _⟩, _, _, _, _⟩ := four hy2))
        all_goals (go_wp2_with fail; go_meet)
        all_goals first
          | exact ⟨_, rfl, rfl, rfl, Vb.set hy2, Vb.other hv2 (Nat.ne_of_lt hl1), hl1, below_setV (hb1.trans (hb2.mono hb1.size)) hb1.size⟩
          | exact ⟨_, rfl, rfl, rfl, Wd.Bx.new w2 _ _, Wd.Bx.alloc hv2 _, Nat.lt_of_lt_of_le hl1 hb2.size, (hb1.trans (hb2.mono hb1.size)).alloc (Nat.le_trans hb1.size hb2.size) _⟩
      case rest =>
        obtain ⟨g, rfl, rfl, rfl, y1, y0, hgl, hbx⟩ := hcut
        obtain ⟨⟨c0, c1, c2, c3⟩, f0, f1, f2, f3⟩ := four y0
        obtain ⟨⟨c4, c5, c6, c7⟩, -⟩ := four y1
        by_cases he : er = 0
        · subst he
          have hw := hmb rfl
          rw [if_pos rfl] at HR
          go_wp2_with fail
          (try simp only [Exit.inBlock, Exit.then])
          refine bodyPost_ret (v := ansV R) ?_ rfl ⟨rfl, ?_⟩
          · rw [HR.out]; unfold ansV; rw [res_cell3 rfl]; go_simp
          · exact below_setV hbx (Nat.le_refl _)
        · rw [if_neg he] at HR
          have he' : (er != 0) = true := by simpa using he
          go_wp2_with fail
          (try simp only [Exit.inBlock, Exit.then])
          refine bodyPost_ret (v := ansV R) ?_ rfl ⟨rfl, ?_⟩
          · rw [HR.out, ansV_null, res_cell3 rfl]; go_simp
          · exact below_setV hbx (Nat.le_refl _)
end Vc
namespace Cx
open Va (Vl May ord null)
open Sc (tr tr_yes tr_no tr_iff)
open Co
theorem bclone_own (A : Option Addr) (m c : Nat) (bs : List Int) (w : World) (hb : Wd.Sl w .u8 A m c bs) (hm : m ≤ 10000000) :
    Calls Tryz.prog 109 #[.slice A m c] w fun e w' => ∃ v, e = .returned v ∧ w'.ownsRow w.heap.size 5 1 v bs.length (bs.map (Value.int .u8)) ∧ Below w.heap.size w w' := by
  obtain ⟨i0, hi, hz0, hz1, hz2⟩ := info_parts info_y
  obtain ⟨rfl, hc, hx, hA, hr⟩ := hb
  rcases A with _ | ad
  · obtain rfl := hA rfl
    obtain rfl := hr.none_
    have hnil : ∀ (w : World) (n c : Nat), (binOp .eql 32 (.slice none n c) (.slice none 0 0)).run Tryz.prog w = .ok (.bool true) w := fun _ _ _ => by kernel_rfl
    go_enter Tryz.func109, Tryz.ntmps109
    go_wp2
    go_ret
    exact ⟨_, rfl, World.ownsRow_nil _ _ _ _, Below.refl _ _⟩
  · have hnil : ∀ (w : World) (n c : Nat) , (binOp .eql 32 (.slice (some ad) n c) (.slice none 0 0)).run Tryz.prog w = .ok (.bool false) w := fun _ _ _ => by kernel_rfl
    go_enter Tryz.func109, Tryz.ntmps109
    go_wp2_with (at_builtin; refine Wd.wpList_app _ rfl (.tmp 5) (.tmp 6) 32 rfl w.heap.size 5 i0 _ .u8 1 Tryz.underlying32 hi hz0 hz1 hz2 rfl (.slice (some ⟨w.heap.size, 0, none⟩) 0 0) [] rfl (World.ownsRow_lit w #[] 0 (Nat.le_refl _) (by simp [maxLen]) rfl) w.heap.size _ _ c bs rfl rfl (by simp) (hr.below ((Below.refl _ _).alloc (Nat.le_refl _) _)) (by simp; omega) (by simp [maxLen]; omega) (by simp) ?_; intro v' w1 hown hbel)
    go_ret
    exact ⟨v', rfl, by simpa using hown, ((Below.refl _ _).alloc (Nat.le_refl _) _).grown hbel (by simp) (by simp [Value.ownBlock])⟩
theorem cbytes_any (n k : Nat) (w : World) (h1 : n ≤ 4096) (h2 : k ≤ 62) :
    Calls Tryz.prog 165 #[.int .i64 n, .int .i64 k] w fun e w' => e = .returned (.int .i64 ((n * k + 7) / 8 : Nat)) ∧ w' = w := by
  obtain ⟨p1, p2⟩ := Bc.prod_le n k h1 h2
  go_enter Tryz.func165, Tryz.ntmps165
  go_wp2
  go_ret
  exact ⟨Bc.ret_int (by omega), rfl⟩
theorem getCount_ok (A : Option Addr) (n c : Nat) (u most : Int) (more : List Int) (w : World) (hS : Wd.Sl w .u8 A n c (Nm.vd u ++ more)) (hB : Nm.Byt (Nm.vd u ++ more)) (h0 : 0 ≤ u) (h1 : u ≤ most) (h2 : most ≤ 100000) :
    Calls Tryz.prog 163 #[.slice A n c, .int .i64 most] w fun e w' => e = .returned (.tuple #[.int .i64 u, .int .i64 ((Nm.vd u).length : Int), .int .i64 0]) ∧ w' = w := by
  have C := Nc.getLen_any A n c _ w hS hB
  rw [Lw.getL_vd u more h0 (by omega)] at C
  unfold Nc.three at C
  have C1 := Lib.hid C
  have q : ¬ most < u := by omega
  obtain ⟨k, hk⟩ : ∃ k, k = (Nm.vd u).length := ⟨_, rfl⟩
  rw [← hk] at C1
  rw [← hk]
  clear C hS hB hk
  go_enter Tryz.func163, Tryz.ntmps163
  go_wp2_with fail
  refine C1.out.mono ?_
  rintro e w' ⟨rfl, hq⟩
  have hq' := hq.symm
  clear hq
  subst hq'
  go_wp2_with fail
  go_ret3
  exact ⟨rfl, rfl⟩
def OutD (w : World) (D : List Vl) (k : Nat) (e : Ending) (w' : World) : Prop :=
  ∃ A n c, e = .returned (.tuple #[.slice A n c, .int .i64 (k : Int), .int .i64 0]) ∧ Wd.Vs w' A n c D ∧ Below w.heap.size w w'
set_option maxHeartbeats 8000000 in
theorem getDict_ok (A : Option Addr) (n c : Nat) (D : List Vl) (more : List Int) (w : World) (hS : Wd.Sl w .u8 A n c (Nm.vd (D.length : Int) ++ putD D ++ more)) (hB : Nm.Byt (Nm.vd (D.length : Int) ++ putD D ++ more)) (hn : n ≤ 1000000) (hD : D.length ≤ 1000) (hM : ∀ v ∈ D, May v) (hI : ∀ v ∈ D, Wd.V1 v) :
    Calls Tryz.prog 164 #[.slice A n c] w (OutD w D (Nm.vd (D.length : Int) ++ putD D).length) := by
  obtain ⟨j0, hj, gz0, gz1, gz2⟩ := info_parts Wd.info_vl
  have hl := hS.len
  have hcap := hS.cap
  have hmx := hS.max
  unfold maxLen at hmx
  have hv1 := (Nm.vd_len (D.length : Int)).1
  have hv2 := (Nm.vd_len (D.length : Int)).2
  obtain ⟨b, o, hA, hbl, -⟩ := hS.rd 0 (by simp; omega)
  subst hA
  have C1 := Lib.hid (getCount_ok _ n c (D.length : Int) 4096 (putD D ++ more) w (by rw [← List.append_assoc]; exact hS) (by rw [← List.append_assoc]; exact hB) (by omega) (by omega) (by omega))
  obtain ⟨P, hP⟩ : ∃ P : Nat → Nat, P = fun k => (Nm.vd (D.length : Int)).length + (putD (D.take k)).length := ⟨_, rfl⟩
  obtain ⟨m, hm⟩ : ∃ m, m = D.length := ⟨_, rfl⟩
  have Hm := Lib.hid hm
  have HP0 := Lib.hid (show P 0 = (Nm.vd (D.length : Int)).length by rw [hP]; simp [putD])
  have HPn := Lib.hid (show P m = (Nm.vd (D.length : Int) ++ putD D).length by rw [hP, hm]; show _ + (putD (D.take D.length)).length = _; rw [List.take_length, List.length_append])
  have HP1 := Lib.hid (show ∀ k, k < D.length → P (k + 1) = P k + ((Va.put (D.getD k default)).length + 1) from fun k hk => by
    rw [hP]
    show _ + (putD (D.take (k + 1))).length = _ + (putD (D.take k)).length + _
    rw [putD_next D k hk, List.length_append, List.length_cons]
    omega)
  have HPd := Lib.hid (show ∀ k, k < D.length → (Nm.vd (D.length : Int) ++ putD D ++ more).drop (P k) = (D.getD k default).kind :: (Va.put (D.getD k default) ++ (putD (D.drop (k + 1)) ++ more)) from fun k hk => by
    have e1 : putD D = putD (D.take k) ++ ((D.getD k default).kind :: Va.put (D.getD k default)) ++ putD (D.drop (k + 1)) := by
      rw [← putD_next D k hk]
      unfold putD
      rw [← List.flatMap_append, List.take_append_drop]
    have e2 : Nm.vd (D.length : Int) ++ putD D ++ more = (Nm.vd (D.length : Int) ++ putD (D.take k)) ++ ((D.getD k default).kind :: (Va.put (D.getD k default) ++ (putD (D.drop (k + 1)) ++ more))) := by
      rw [e1]
      simp
    rw [e2, hP]
    show List.drop ((Nm.vd (D.length : Int)).length + (putD (D.take k)).length) _ = _
    rw [← List.length_append, List.drop_left])
  have HPl := Lib.hid (show ∀ k, k < D.length → P k < n from fun k hk => by
    have h1 := congrArg List.length (HPd.out k hk)
    rw [List.length_drop, ← hl] at h1
    simp only [List.length_cons] at h1
    omega)
  have HPn2 := Lib.hid (show ∀ k, k ≤ D.length → P k ≤ 10 + 75 * k from fun k hk => by
    have h1 := putD_len (D := D.take k) fun v hv => hM v (List.mem_of_mem_take hv)
    have h2 : (D.take k).length ≤ k := by simp; omega
    rw [hP]
    show (Nm.vd (D.length : Int)).length + (putD (D.take k)).length ≤ _
    omega)
  have HS := Lib.hid hS
  have HBy := Lib.hid hB
  have HM := Lib.hid hM
  have HI := Lib.hid hI
  rw [← HPn.out]
  rw [← HP0.out, ← hm] at C1
  have hm4 : m ≤ 4096 := by omega
  have hm1 : m ≤ 1000 := by omega
  clear hS hB hM hI hP hm hl hv1 hv2
  go_enter Tryz.func164, Tryz.ntmps164
  go_wp2_with fail
  refine C1.out.mono ?_
  rintro e w1 ⟨rfl, hq⟩
  have hq' := hq.symm
  clear hq
  subst hq'
  clear C1
  go_wp2_with (at_make; refine wpList_make_full _ rfl (.tmp 22) (.tmp 22) 48 rfl w.heap.size 47 j0 _ 4 Tryz.underlying48 hj gz0 gz1 .i64 .i64 (m : Int) (m : Int) m rfl rfl rfl rfl (by rw [gz2]; omega) (by unfold maxLen; omega) (Nat.le_refl _) ?_; intro w3 hown hgrow; rw [Wd.made_null] at hown)
  obtain ⟨hR0, -, -⟩ := Wd.RowV.of_own hown
  have hB3 : Below w.heap.size w w3 := (Below.refl _ _).grown hgrow (Nat.le_refl _) (by simp)
  have hR1 : Wd.RowV w3 w.heap.size (fillV D 0) := by rw [fillV_zero, ← Hm.out]; exact hR0
  have I0 := Lib.hid (And.intro hR1 hB3)
  clear hown hgrow hB3 hR0 hR1
  go_loopw [6, 26] (fun v j wr => ∃ k : Nat, j = .int .i64 k ∧ v = .int .i64 (P k : Int) ∧ k ≤ m ∧ Wd.RowV wr w.heap.size (fillV D k) ∧ Below w.heap.size w wr) (fun _ j _ => m - (intOf j).toNat)
  case atStart => exact ⟨0, rfl, rfl, Nat.zero_le _, I0.out.1, I0.out.2⟩
  case round =>
    obtain ⟨k, rfl, rfl, hk, hR, hB⟩ := hrel
    by_cases hkm : k < m
    · have hkI : (k : Int) < m := by omega
      have hk0 : (0 : Int) ≤ (k : Int) := by omega
      have hkD : k < D.length := by rw [← Hm.out]; exact hkm
      have hpn := HPl.out k hkD
      have hp1 := HP1.out k hkD
      have hpd := HPd.out k hkD
      have hpl := HPn2.out k (by omega)
      have hvm : D.getD k default ∈ D := by rw [List.getD_eq_getElem?_getD, List.getElem?_eq_getElem hkD]; exact List.getElem_mem hkD
      have hmay := HM.out _ hvm
      have hv1 := HI.out _ hvm
      have hput := Va.put_len hmay
      have hkT : k < (fillV D k).length := by rw [fillV_len]; exact hkD
      have hfs := fillV_set D k hkD
      obtain ⟨y, hy⟩ : ∃ y, y = D.getD k default := ⟨_, rfl⟩
      rw [← hy] at hp1 hpd hmay hv1 hput hfs
      have hbd := bounds_i64 hv1.w1
      obtain ⟨p, hp⟩ : ∃ p, p = P k := ⟨_, rfl⟩
      obtain ⟨p2, hp2⟩ : ∃ p, p = P (k + 1) := ⟨_, rfl⟩
      rw [← hp] at hpn hp1 hpd hpl
      rw [← hp2] at hp1
      have Hp2 := Lib.hid hp2
      have Ca := Vc.Any_any (some ⟨b, o + p, none⟩) (n - p) (c - p) _ wr ((HS.out.below hB).cut_at p (by omega) (by omega)) (fun x hx => HBy.out x (List.mem_of_mem_drop hx))
      rw [hpd, Va.any_put hmay hbd.1 hbd.2] at Ca
      obtain ⟨q, hq⟩ : ∃ q : Int, q = ((Va.put y).length : Int) + 1 := ⟨_, rfl⟩
      rw [← hq] at Ca
      unfold Vc.ansV at Ca
      have hqb : 1 ≤ q ∧ q ≤ 75 := by omega
      have hpq : (p : Int) + q = (p2 : Int) := by omega
      have Hpq := Lib.hid hpq
      have hwq : wrap64 ((p : Int) + q) = (p2 : Int) := by rw [hpq]; exact IntWalk.wrap64_in _ ⟨by omega, by omega⟩
      obtain ⟨vk, vi, vs, vb⟩ := y
      simp only [] at Ca
      have CA := Lib.hid Ca
      have HR := Lib.hid hR
      have HB := Lib.hid hB
      have Hfs := Lib.hid hfs
      have HkT := Lib.hid hkT
      have hpc : p < c := by omega
      have hpI : (p : Int) ≤ (n : Int) := by omega
      have hp0 : (0 : Int) ≤ (p : Int) := by omega
      rw [← hp]
      clear hp hp1 hpd hmay hv1 hput hbd hq hy Ca hR hB hfs hkT hvm hkD hp2 hpl hpq
      go_wp2_with fail
      refine CA.out.mono ?_
      rintro e w5 ⟨rfl, hB5⟩
      have hR5 := HR.out.below HR.out.lt hB5
      have hb5 := HB.out.trans (hB5.mono HB.out.size)
      obtain ⟨u, ⟨u0, u1, u2, u3⟩, v0, v1, v2, v3⟩ := hR5.four HkT.out
      have hgl := hR5.lt
      have HR5 := Lib.hid hR5
      have HB5 := Lib.hid hb5
      clear hB5 hR5 hb5 CA
      go_wp2_with fail
      go_roundw
      case rel =>
        refine ⟨k + 1, by go_num, by rw [← Hp2.out, ← Hpq.out], by omega, ?_, ?_⟩
        · rw [← Hfs.out]
          exact Wd.Bx.alloc (HR5.out.set k HkT.out ⟨vk, vi, vs, vb⟩) _
        · have h9 := (((HB5.out.setCell (p := ⟨w.heap.size, k * 4, none⟩) (Nat.le_refl _) (.int .i64 vk)).setCell (p := ⟨w.heap.size, k * 4 + 1, none⟩) (Nat.le_refl _) (.int .i64 vi)).setCell (p := ⟨w.heap.size, k * 4 + 2, none⟩) (Nat.le_refl _) (.string vs)).setCell (p := ⟨w.heap.size, k * 4 + 3, none⟩) (Nat.le_refl _) (.bool vb)
          exact h9.alloc h9.size _
      case measure => simp [intOf]; omega
    · have hkI : ¬ (k : Int) < m := by omega
      obtain rfl : k = m := by omega
      have e2 : fillV D k = D := by rw [Hm.out]; exact fillV_all D
      rw [e2] at hR
      have HR := Lib.hid (hR.vs k Hm.out (by unfold maxLen; omega) (fun j hj => HI.out _ (by rw [List.getD_eq_getElem?_getD, List.getElem?_eq_getElem hj]; exact List.getElem_mem hj)))
      have HB := Lib.hid hB
      clear hR hB e2
      go_wp2_with fail
      go_ret3
      exact ⟨_, _, _, rfl, HR.out, HB.out⟩
end Cx
namespace Cx
open Va (Vl May ord null)
open Sc (tr tr_yes tr_no tr_iff)
open Co
theorem res_cellG {fn : Func} {p q u : Tmp} {ty : TypeId} (h : fn.results = #[.cell p ty, .tmp q, .tmp u]) (tmps : Array Value) (P : Program) (w : World) :
    (results fn tmps).run P w = ((asAddr (tmps.getD p undef)).run P w).andThen fun a w₁ => ((loadVar ty a).run P w₁).andThen fun x w₂ => .ok (.tuple #[x, tmps.getD q undef, tmps.getD u undef]) w₂ := by
  simp only [results, h]
  simp [Sem.run_bind, Result.andThen]
theorem wrapN {a : Nat} (h : a ≤ 1000000) : wrap64 (a : Int) = (a : Int) := IntWalk.wrap64_in _ ⟨by omega, by omega⟩
theorem getBounds {n c L1 L2 I M p E : Nat} (hl2 : n = L1 + (L2 + (I + M))) (hcap : n ≤ c) (hn : n ≤ 200000) (hL2p : 1 ≤ L2) (hp : p = L1 + L2) (hEs : E = p + I) :
    wrap64 ((L1 : Int) + (L2 : Int)) = (p : Int) ∧ wrap64 ((p : Int) + (I : Int)) = (E : Int) ∧ E ≤ n ∧ p ≤ E ∧ L1 < n ∧ L1 < c ∧ (L1 : Int) ≤ (n : Int) ∧ ¬ (n : Int) < (E : Int) ∧ (p : Int) ≤ (E : Int) ∧ (E : Int) ≤ (c : Int) ∧ (0 : Int) ≤ (L1 : Int) ∧ (0 : Int) ≤ (p : Int) ∧ (c = p ∨ p < c) := by
  have h1 : (L1 : Int) + (L2 : Int) = (p : Int) := by omega
  have h2 : (p : Int) + (I : Int) = (E : Int) := by omega
  refine ⟨by rw [h1]; exact wrapN (by omega), by rw [h2]; exact wrapN (by omega), ?_⟩
  omega
theorem may_size {v : Vl} (h : May v) : v.s.size ≤ 64 := by
  unfold May at h
  rcases h with ⟨_, _, q, _⟩ | ⟨_, q, _⟩ | ⟨_, _, q, _⟩ | ⟨_, _, q⟩
  · rw [q]; decide
  · rw [q]; decide
  · exact q
  · rw [q]; decide
set_option maxHeartbeats 8000000 in
theorem cget_ok (A : Option Addr) (n c : Nat) (C : Col) (more : List Int) (w : World) (hS : Wd.Sl w .u8 A n c (puts C ++ more)) (hB : Nm.Byt (puts C ++ more)) (hn : n ≤ 200000) (hv : Valid C) (hd : C.dict.length ≤ 1000) (hI : ∀ v ∈ C.dict, Wd.V1 v) :
    Calls Tryz.prog 113 #[.slice A n c] w (OutG w C ((puts C).length : Int) 0) := by
  have hb0 := (Below.refl w.heap.size w).alloc (Nat.le_refl _) (.cells #[.int .i64 0, .slice none 0 0, .slice none 0 0] 57)
  have x0 := Cb.new w 0 none 0 0 none 0 0
  have hl := hS.len
  have hcap := hS.cap
  have hmx := hS.max
  unfold maxLen at hmx
  have hn0 := hv.n0
  have hn1 := hv.n1
  obtain ⟨N', W', eN, eW, hW62, hN4, hil, -⟩ := Bc.unE_inv hv.un0
  have hle : (puts C).length = (Nm.vd C.n).length + (Nm.vd (C.dict.length : Int) ++ putD C.dict).length + C.ids.length := by
    unfold puts
    simp only [List.length_append]
    omega
  have hsp : puts C ++ more = Nm.vd C.n ++ (Nm.vd (C.dict.length : Int) ++ putD C.dict ++ (C.ids ++ more)) := by
    unfold puts
    simp
  have hv1 := (Nm.vd_len C.n).1
  have hv2 := (Nm.vd_len (C.dict.length : Int)).1
  obtain ⟨b, o, hA, hbl, -⟩ := hS.rd 0 (by rw [List.length_append, hle]; omega)
  subst hA
  have hS0 := hS.below hb0
  have hl2 : n = (Nm.vd C.n).length + ((Nm.vd (C.dict.length : Int) ++ putD C.dict).length + (C.ids.length + more.length)) := by
    rw [hl, hsp]
    simp only [List.length_append]
  obtain ⟨L1, hL1⟩ : ∃ k, k = (Nm.vd C.n).length := ⟨_, rfl⟩
  obtain ⟨L2, hL2⟩ : ∃ k, k = (Nm.vd (C.dict.length : Int) ++ putD C.dict).length := ⟨_, rfl⟩
  obtain ⟨E, hE⟩ : ∃ k, k = (puts C).length := ⟨_, rfl⟩
  have hL2p : 1 ≤ L2 := by rw [hL2, List.length_append]; omega
  have hEs : E = L1 + L2 + C.ids.length := by rw [hE, hL1, hL2]; exact hle
  have C1 := Lib.hid (getCount_ok _ n c C.n 4096 _ _ (by rw [← hsp]; exact hS0) (by rw [← hsp]; exact hB) hn0 (by omega) (by omega))
  rw [← hL1] at C1 hl2
  rw [← hL2] at hl2
  have hdr : (puts C ++ more).drop L1 = Nm.vd (C.dict.length : Int) ++ putD C.dict ++ (C.ids ++ more) := by rw [hsp, hL1, List.drop_left]
  have hS1 := hS0.cut_at L1 (by omega) (by omega)
  rw [hdr] at hS1
  have C2 := Lib.hid (getDict_ok _ (n - L1) (c - L1) C.dict (C.ids ++ more) _ hS1 (by intro x hx; exact hB x (List.mem_of_mem_drop (by rw [hdr]; exact hx))) (by omega) hd hv.ris.1 hI)
  rw [← hL2] at C2
  obtain ⟨m, hm⟩ : ∃ m, m = C.dict.length := ⟨_, rfl⟩
  have hm1 : m ≤ 1000 := by omega
  have Cw := Lib.hid fun w => cwidth_any m (by omega) w
  have e3 : Bc.wid ((m : Int) - 1) = W' := by
    have : ((wdt C.dict : Nat) : Int) = (W' : Int) := eW
    have h2 : wdt C.dict = W' := by omega
    rw [← h2, hm]
    rfl
  rw [e3] at Cw
  have Cb5 := Lib.hid fun w => cbytes_any N' W' w hN4 hW62
  have hmd : ((puts C ++ more).drop (L1 + L2)).take (E - (L1 + L2)) = C.ids := by
    rw [hsp, ← List.append_assoc, show L1 + L2 = (Nm.vd C.n ++ (Nm.vd (C.dict.length : Int) ++ putD C.dict)).length by rw [List.length_append, hL1, hL2], List.drop_left, show E - (Nm.vd C.n ++ (Nm.vd (C.dict.length : Int) ++ putD C.dict)).length = C.ids.length by rw [List.length_append, ← hL1, ← hL2]; omega]
    exact List.take_left
  rw [← hil] at Cb5
  have hil2 : C.ids.length = E - (L1 + L2) := by omega
  have CcA : c = L1 + L2 → ∀ w', Below w.heap.size w w' → Calls Tryz.prog 109 #[.slice (some ⟨b, o, none⟩) (E - (L1 + L2)) 0] w' fun e w'' => ∃ v, e = .returned v ∧ w''.ownsRow w'.heap.size 5 1 v C.ids.length (C.ids.map (Value.int .u8)) ∧ Below w'.heap.size w' w'' := fun hc w' hb => by
    have h1 := (hS.below hb).mid (L1 + L2) E (by omega) (by omega)
    rw [hmd, if_pos hc, show c - (L1 + L2) = 0 by omega] at h1
    exact bclone_own _ _ _ _ _ h1 (by omega)
  have CcB : L1 + L2 < c → ∀ w', Below w.heap.size w w' → Calls Tryz.prog 109 #[.slice (some ⟨b, o + (L1 + L2), none⟩) (E - (L1 + L2)) (c - (L1 + L2))] w' fun e w'' => ∃ v, e = .returned v ∧ w''.ownsRow w'.heap.size 5 1 v C.ids.length (C.ids.map (Value.int .u8)) ∧ Below w'.heap.size w' w'' := fun hc w' hb => by
    have h1 := (hS.below hb).mid (L1 + L2) E (by omega) (by omega)
    rw [hmd, if_neg (by omega), Option.map_some, Addr.add_lit] at h1
    exact bclone_own _ _ _ _ _ h1 (by omega)
  have HC := Lib.hid (show ∀ w' A n c B m d, Wd.Vs w' A n c C.dict → Wd.Sl w' .u8 B m d C.ids → Cl w' A n c B m d C from fun w' A n c B m d h1 h2 => ⟨h1, h2, fun x hx => by
      have := hB x (by unfold puts; simp [hx])
      exact ⟨this.1, by have := this.2; rw [show (2 : Int) ^ 8 = 256 by decide]; omega⟩, by omega, by omega, fun x hx => by have := may_size (hv.ris.1 x hx); unfold maxLen; omega⟩)
  have Hv := Lib.hid hv
  have Hb0 := Lib.hid hb0
  have Hm := Lib.hid hm
  obtain ⟨I, hI5⟩ : ∃ I, I = C.ids.length := ⟨_, rfl⟩
  rw [← hI5] at Cb5 hEs hl2 hil2
  have HI5 := Lib.hid hI5
  obtain ⟨M, hM⟩ : ∃ M, M = more.length := ⟨_, rfl⟩
  rw [← hM] at hl2
  have eN' : C.n = (N' : Int) := eN
  rw [eN'] at C1
  have HN := Lib.hid eN'
  rw [← hE]
  obtain ⟨p, hp⟩ : ∃ p, p = L1 + L2 := ⟨_, rfl⟩
  rw [← hp] at CcA CcB hEs hil2
  have Hil2 := Lib.hid hil2
  clear hS hB hv hI hb0 hl hn0 hn1 eN eW hil hle hsp hv1 hv2 hbl hS0 hS1 hdr hmd hm e3 hI5 hM hil2 hd hL1 hL2 hE
  obtain ⟨hwp, hwE, hEn, hpE, hL1n, hL1c, g1, g2, g3, g4, g5, g6, hpc⟩ := getBounds hl2 hcap hn hL2p hp hEs
  obtain ⟨wa, hwa⟩ : ∃ wa, wa = w.alloc (.cells #[.int .i64 0, .slice none 0 0, .slice none 0 0] 57) := ⟨_, rfl⟩
  rw [← hwa] at x0 Hb0 C1 C2
  have Hwa := Lib.hid hwa
  have HEs := Lib.hid hEs
  have Hl2 := Lib.hid hl2
  have CcA' := Lib.hid CcA
  have CcB' := Lib.hid CcB
  clear hwa eN' hp hEs hl2 CcA CcB
  go_enter Tryz.func113, Tryz.ntmps113
  go_wp2_with fail
  rw [← Hwa.out]
  go_wp2_with fail
  refine C1.out.mono ?_
  rintro e w1 ⟨rfl, hq⟩
  have hq' := hq.symm
  clear hq
  subst hq'
  go_wp2_with fail
  refine C2.out.mono ?_
  rintro e w5 ⟨A5, n5, c5, rfl, hV5, hB5⟩
  have hwl : n5 = m := by rw [hV5.len, Hm.out]
  subst hwl
  have h5c := hV5.cap
  have h5m := hV5.max
  unfold maxLen at h5m
  have hb5 := Hb0.out.trans (hB5.mono Hb0.out.size)
  have y5 := x0.below x0.lt hB5
  have hlt5 := y5.lt
  have Hb5 := Lib.hid hb5
  have HV5 := Lib.hid hV5
  clear hB5 hV5 C1 C2 x0 hb5
  go_wp2_with (first
    | (go_at_call 166; refine (Cw.out _).mono ?_; rintro e8 w8 ⟨rfl, hq⟩; have hq' := hq.symm; clear hq; subst hq')
    | (go_at_call 165; refine (Cb5.out _).mono ?_; rintro e8 w8 ⟨rfl, hq⟩; have hq' := hq.symm; clear hq; subst hq'))
  case inl =>
    have CC := Lib.hid (CcA'.out (by assumption) w5 Hb5.out)
    refine CC.out.mono ?_
    rintro e w6 ⟨v6, rfl, hO6, hB6⟩
    obtain ⟨A6, n6, c6, rfl, hS6⟩ := Wd.Sl.of_own hO6
    have hb6 := Hb5.out.trans (hB6.mono Hb5.out.size)
    have y6 := y5.below hlt5 hB6
    have hlt6 := y6.lt
    have HCl := Lib.hid (HC.out _ _ _ _ _ _ _ (HV5.out.below hB6) hS6)
    have HS6 := Lib.hid hS6
    have Hb6 := Lib.hid hb6
    have z6 := Cb.new w6 (N' : Int) A5 n5 c5 A6 n6 c6
    have hk6 := (Below.refl w6.heap.size w6).alloc (Nat.le_refl _) (.cells #[.int .i64 (N' : Int), .slice A5 n5 c5, .slice A6 n6 c6] 57)
    have Cm := cmay_any A5 n5 c5 A6 n6 c6 C (w6.alloc (.cells #[.int .i64 (N' : Int), .slice A5 n5 c5, .slice A6 n6 c6] 57)) (HCl.out.below hk6) hm1 (by rw [hS6.len, ← HI5.out]; have := HEs.out; omega)
    rw [tr_yes Hv.out, HN.out] at Cm
    have CM := Lib.hid Cm
    have Hk6 := Lib.hid hk6
    have z0 := z6.c0
    have z1 := z6.c1
    have z2 := z6.c2
    clear hO6 hS6 hB6 hb6 hk6 Cm CC
    go_wp2_with fail
    refine CM.out.mono ?_
    rintro e w7 ⟨rfl, hB7⟩
    have z7 := z6.below z6.lt hB7
    have hb67 := Hk6.out.trans (hB7.mono Hk6.out.size)
    have y7 := y6.below hlt6 hb67
    have q0 := z7.c0
    have q1 := z7.c1
    have q2 := z7.c2
    have r0 := y7.c0
    have r1 := y7.c1
    have r2 := y7.c2
    have f0 := y7.bx.free 0
    have f1 := y7.bx.free 1
    have f2 := y7.bx.free 2
    have hne : w6.heap.size ≠ w.heap.size := by omega
    have HL7 := Lib.hid (HCl.out.below hb67)
    have Hb7 := Lib.hid (Hb6.out.trans (hb67.mono Hb6.out.size))
    have Y7 := Lib.hid y7
    have Hx8 := Lib.hid (box3 (x := .int .i64 (N' : Int)) (y := .slice A5 n5 c5) (z := .slice A6 n6 c6) y7.bx)
    clear hB7 hb67 z6 z7 y6 y7 z0 z1 z2
    go_wp2_with fail
    have s0 := Hx8.out.cell 0
    have s1 := Hx8.out.cell 1
    have s2 := Hx8.out.cell 2
    have hnv := vs_ne Y7.out HL7.out.dict
    have hns := sl_ne Y7.out HL7.out.ids
    refine bodyPost_ret (v := .tuple #[.agg #[.int .i64 (N' : Int), .slice A5 n5 c5, .slice A6 n6 c6], .int .i64 (E : Int), .int .i64 0]) ?_ rfl ⟨A5, n5, c5, A6, n6, c6, by rw [HN.out], HC.out _ _ _ _ _ _ _ (vs_store (vs_store (vs_store HL7.out.dict hnv _ _) hnv _ _) hnv _ _) (sl_store (sl_store (sl_store HL7.out.ids hns _ _) hns _ _) hns _ _), ((Hb7.out.setCell (Nat.le_refl _) _).setCell (Nat.le_refl _) _).setCell (Nat.le_refl _) _⟩
    rw [res_cellG rfl]; go_simp
  case inr =>
    have CC := Lib.hid (CcB'.out (by rcases hpc with q | q; exact absurd q (by assumption); exact q) w5 Hb5.out)
    refine CC.out.mono ?_
    rintro e w6 ⟨v6, rfl, hO6, hB6⟩
    obtain ⟨A6, n6, c6, rfl, hS6⟩ := Wd.Sl.of_own hO6
    have hb6 := Hb5.out.trans (hB6.mono Hb5.out.size)
    have y6 := y5.below hlt5 hB6
    have hlt6 := y6.lt
    have HCl := Lib.hid (HC.out _ _ _ _ _ _ _ (HV5.out.below hB6) hS6)
    have HS6 := Lib.hid hS6
    have Hb6 := Lib.hid hb6
    have z6 := Cb.new w6 (N' : Int) A5 n5 c5 A6 n6 c6
    have hk6 := (Below.refl w6.heap.size w6).alloc (Nat.le_refl _) (.cells #[.int .i64 (N' : Int), .slice A5 n5 c5, .slice A6 n6 c6] 57)
    have Cm := cmay_any A5 n5 c5 A6 n6 c6 C (w6.alloc (.cells #[.int .i64 (N' : Int), .slice A5 n5 c5, .slice A6 n6 c6] 57)) (HCl.out.below hk6) hm1 (by rw [hS6.len, ← HI5.out]; have := HEs.out; omega)
    rw [tr_yes Hv.out, HN.out] at Cm
    have CM := Lib.hid Cm
    have Hk6 := Lib.hid hk6
    have z0 := z6.c0
    have z1 := z6.c1
    have z2 := z6.c2
    clear hO6 hS6 hB6 hb6 hk6 Cm CC
    go_wp2_with fail
    refine CM.out.mono ?_
    rintro e w7 ⟨rfl, hB7⟩
    have z7 := z6.below z6.lt hB7
    have hb67 := Hk6.out.trans (hB7.mono Hk6.out.size)
    have y7 := y6.below hlt6 hb67
    have q0 := z7.c0
    have q1 := z7.c1
    have q2 := z7.c2
    have r0 := y7.c0
    have r1 := y7.c1
    have r2 := y7.c2
    have f0 := y7.bx.free 0
    have f1 := y7.bx.free 1
    have f2 := y7.bx.free 2
    have hne : w6.heap.size ≠ w.heap.size := by omega
    have HL7 := Lib.hid (HCl.out.below hb67)
    have Hb7 := Lib.hid (Hb6.out.trans (hb67.mono Hb6.out.size))
    have Y7 := Lib.hid y7
    have Hx8 := Lib.hid (box3 (x := .int .i64 (N' : Int)) (y := .slice A5 n5 c5) (z := .slice A6 n6 c6) y7.bx)
    clear hB7 hb67 z6 z7 y6 y7 z0 z1 z2
    go_wp2_with fail
    have s0 := Hx8.out.cell 0
    have s1 := Hx8.out.cell 1
    have s2 := Hx8.out.cell 2
    have hnv := vs_ne Y7.out HL7.out.dict
    have hns := sl_ne Y7.out HL7.out.ids
    refine bodyPost_ret (v := .tuple #[.agg #[.int .i64 (N' : Int), .slice A5 n5 c5, .slice A6 n6 c6], .int .i64 (E : Int), .int .i64 0]) ?_ rfl ⟨A5, n5, c5, A6, n6, c6, by rw [HN.out], HC.out _ _ _ _ _ _ _ (vs_store (vs_store (vs_store HL7.out.dict hnv _ _) hnv _ _) hnv _ _) (sl_store (sl_store (sl_store HL7.out.ids hns _ _) hns _ _) hns _ _), ((Hb7.out.setCell (Nat.le_refl _) _).setCell (Nat.le_refl _) _).setCell (Nat.le_refl _) _⟩
    rw [res_cellG rfl]; go_simp
end Cx
end Go.Proofs.YtaoeipehpakngaaGreatDoor
