/- What value.Order does. -/
import Derived.BigRegion
import Derived.Deep.RegionHeld3
import Derived.Deep.RegionWith
import Derived.Deep.DeepCutAuto
import Derived.StillTailTactics
import Derived.BigQuiet
import Derived.Deep.QuietTactic
import Derived.Test.YtaoeipehpakngaaGreatDoorPb13
import Derived.Test.YtaoeipehpakngaaGreatDoorPb06
namespace Go.Proofs.YtaoeipehpakngaaGreatDoor
set_option maxRecDepth 20000
open Go.RowKit
namespace Vc
open Va
theorem ord_own (k i : Int) (s : ByteArray) (b : Bool) (k' i' : Int) (s' : ByteArray) (b' : Bool) :
    fstN [cmpI k k', cmpI (ownI k i) (ownI k' i'), cmpS (ownS k s) (ownS k' s'), cmpI (dg (ownB k b)) (dg (ownB k' b'))] = ord ⟨k, i, s, b⟩ ⟨k', i', s', b'⟩ := by
  have zI : cmpI 0 0 = 0 := cmpI_zero.2 rfl
  have zS : cmpS ⟨#[]⟩ ⟨#[]⟩ = 0 := cmpS_zero.2 rfl
  by_cases e : k = k'
  · subst e
    rw [ord_same (a := ⟨k, i, s, b⟩) (b := ⟨k, i', s', b'⟩) rfl]
    unfold ownI ownS ownB dg
    have zk : cmpI k k = 0 := by unfold cmpI; simp [way]
    by_cases h1 : k = 1
    · subst h1
      simp [fstN, zI, zS, zk]
      intro h; exact h.symm
    by_cases h2 : k = 2
    · subst h2
      simp [fstN, zI, zk]
      intro h; exact h.symm
    by_cases h3 : k = 3
    · subst h3
      simp [fstN, zI, zS, zk]
      cases b <;> cases b' <;> decide
    · simp [fstN, zI, zS, zk, h1, h2, h3]
  · unfold ord
    by_cases h : k < k'
    · have : cmpI k k' = -1 := by unfold cmpI; simp [h, way]
      simp [fstN, this, h]
    · have h' : k' < k := by omega
      have : cmpI k k' = 1 := by unfold cmpI; simp [h, h', way]
      simp [fstN, this, h, h']
set_option maxHeartbeats 2000000 in
theorem order_any (k i : Int) (s : ByteArray) (b : Bool) (k' i' : Int) (s' : ByteArray) (b' : Bool) (w : World) :
    Calls Tryz.prog 141 #[.agg #[.int .i64 k, .int .i64 i, .string s, .bool b], .agg #[.int .i64 k', .int .i64 i', .string s', .bool b']] w fun e w' => e = .returned (.int .i64 (ord ⟨k, i, s, b⟩ ⟨k', i', s', b'⟩)) ∧ Below w.heap.size w w' := by
  have Co := Lib.hid own_any
  go_enter Tryz.func141, Tryz.ntmps141
  go_wp2_with fail
  have hb0 : Below w.heap.size w ((w.alloc (.cells #[.int .i64 k, .int .i64 i, .string s, .bool b] 47)).alloc (.cells #[.int .i64 k', .int .i64 i', .string s', .bool b'] 47)) := ((Below.refl _ _).alloc (Nat.le_refl _) _).alloc (by simp) _
  have hz0 : ((w.alloc (.cells #[.int .i64 k, .int .i64 i, .string s, .bool b] 47)).alloc (.cells #[.int .i64 k', .int .i64 i', .string s', .bool b'] 47)).heap.size = w.heap.size + 1 + 1 := by simp
  have v0 : Vb ((w.alloc (.cells #[.int .i64 k, .int .i64 i, .string s, .bool b] 47)).alloc (.cells #[.int .i64 k', .int .i64 i', .string s', .bool b'] 47)) w.heap.size k i s b := (Wd.Bx.new w _ _).alloc _
  have v1 : Vb ((w.alloc (.cells #[.int .i64 k, .int .i64 i, .string s, .bool b] 47)).alloc (.cells #[.int .i64 k', .int .i64 i', .string s', .bool b'] 47)) (w.heap.size + 1) k' i' s' b' := by
    have := Wd.Bx.new (w.alloc (.cells #[.int .i64 k, .int .i64 i, .string s, .bool b] 47)) 47 #[.int .i64 k', .int .i64 i', .string s', .bool b']
    simpa [Vb] using this
  generalize (w.alloc (.cells #[.int .i64 k, .int .i64 i, .string s, .bool b] 47)).alloc (.cells #[.int .i64 k', .int .i64 i', .string s', .bool b'] 47) = w1 at *
  go_cut [] (fun wx => Vb wx w.heap.size k (ownI k i) (ownS k s) (ownB k b) ∧ Vb wx (w.heap.size + 1) k' (ownI k' i') (ownS k' s') (ownB k' b') ∧ Below w.heap.size w wx)
  case first =>
    obtain ⟨⟨u0, u1, u2, u3⟩, -⟩ := four v0
    obtain ⟨⟨u4, u5, u6, u7⟩, -⟩ := four v1
    have tok1 : True := trivial
    have hl0 : w.heap.size < w1.heap.size := by omega
    have hl1 : w.heap.size + 1 < w1.heap.size := by omega
    go_region_with (first | (go_at_call 190; (with_reducible refine (Co.out _ _ _ _ _).mono ?_); have _t := tok1; clear tok1; rintro e w2 ⟨rfl, hB2⟩; have hb2 : Below w1.heap.size w1 w2 := Wd.of_drew hB2; have hz2 := hb2.size; obtain ⟨⟨_, _, _, _⟩, -⟩ := four (Wd.Bx.below v1 hl1 hb2)) | (go_at_call 190; (with_reducible refine (Co.out _ _ _ _ _).mono ?_); rintro e w3 ⟨rfl, hB3⟩; have hb3 : Below w1.heap.size w1 w3 := hb2.trans (hB3.mono hz2); have x0 := Wd.Bx.below v0 hl0 hb3; have x1 := Wd.Bx.below v1 hl1 hb3; obtain ⟨⟨_, _, _, _⟩, _, _, _, _⟩ := four x0; obtain ⟨⟨_, _, _, _⟩, _, _, _, _⟩ := four x1))
    all_goals (go_wp2_with fail; go_meet; exact ⟨(Vb.set x0).other (by omega), (Vb.other x1 (by omega)).set, below_setV (below_setV (hb0.trans (hb3.mono (by omega))) (Nat.le_refl _)) (by omega)⟩)
  case rest =>
    obtain ⟨y0, y1, hB⟩ := hcut
    obtain ⟨⟨c0, c1, c2, c3⟩, -⟩ := four y0
    obtain ⟨⟨c4, c5, c6, c7⟩, -⟩ := four y1
    go_wp2_with fail
    refine wp_region_still_tail 22 (by kernel_rfl) (by kernel_rfl) ?_
    simp only [List.take_succ_cons, List.take_zero, List.drop_succ_cons, List.drop_zero]
    repeat (first | still_call (cmpI_any _ _ _) | still_call (cmpS_any _ _ _) | still_call (digit_any _ _) | still_call (cmpD_any _ _ _) | still_step)
    try refine wpStill_nil ?_
    change wpList _ _ _ _ _ wc.drew
    clear c0 c1 c2 c3 c4 c5 c6 c7 y0 y1
    obtain ⟨r1, hr1⟩ : ∃ r, r = cmpI k k' := ⟨_, rfl⟩
    obtain ⟨r2, hr2⟩ : ∃ r, r = cmpI (ownI k i) (ownI k' i') := ⟨_, rfl⟩
    obtain ⟨r3, hr3⟩ : ∃ r, r = cmpS (ownS k s) (ownS k' s') := ⟨_, rfl⟩
    obtain ⟨r4, hr4⟩ : ∃ r, r = cmpI (dg (ownB k b)) (dg (ownB k' b')) := ⟨_, rfl⟩
    have Hr := Lib.hid (ord_own k i s b k' i' s' b')
    rw [← hr1, ← hr2, ← hr3, ← hr4] at *
    clear hr1 hr2 hr3 hr4
    go_wp2_with fail
    refine (or_any _ 4 4 [r1, r2, r3, r4] _ ((Wd.Sl.lit wc .i64 [r1, r2, r3, r4] _ _ 4 rfl rfl (by decide)).below ((Below.refl _ _).drew)) (by decide)).mono ?_
    rintro e w5 ⟨rfl, rfl⟩
    rw [Hr.out]
    go_wp2_with fail
    go_ret
    exact ⟨rfl, (hB.alloc hB.size _).drew⟩
end Vc
end Go.Proofs.YtaoeipehpakngaaGreatDoor
