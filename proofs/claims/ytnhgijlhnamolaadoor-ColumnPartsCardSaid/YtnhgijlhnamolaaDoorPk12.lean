/- What cmp.Compare does at numbers, texts and bytes, and cmp.Or. What value.Order does. -/
import Derived.WalkLawsBesides
import Derived.WalkSpells
import Derived.BigRegion
import Derived.Deep.RegionHeld3
import Derived.Deep.RegionWith
import Derived.Deep.DeepCutAuto
import Derived.StillTailTactics
import Derived.BigQuiet
import Derived.Deep.QuietTactic
import Derived.Test.YtnhgijlhnamolaaDoorPk08
import Derived.Test.YtnhgijlhnamolaaDoorPk07
namespace Go.Proofs.YtnhgijlhnamolaaDoor
set_option maxRecDepth 20000
open Go.RowKit
namespace Vc
open Va
theorem nanI_any (x : Int) (w : World) :
    Calls Tryd.prog 108 #[.int .i64 x] w fun e w' => e = .returned (.bool false) ∧ w' = w := by
  go_enter Tryd.func108, Tryd.ntmps108
  go_wp2_with fail
  go_ret
  exact ⟨by simp, rfl⟩
theorem nanB_any (x : Int) (w : World) :
    Calls Tryd.prog 110 #[.int .u8 x] w fun e w' => e = .returned (.bool false) ∧ w' = w := by
  go_enter Tryd.func110, Tryd.ntmps110
  go_wp2_with fail
  go_ret
  exact ⟨by simp, rfl⟩
theorem nanS_any (x : ByteArray) (w : World) :
    Calls Tryd.prog 109 #[.string x] w fun e w' => e = .returned (.bool false) ∧ w' = w := by
  go_enter Tryd.func109, Tryd.ntmps109
  go_wp2_with fail
  go_ret
  exact ⟨by simp, rfl⟩
theorem cmpI_any (x y : Int) (w : World) :
    Calls Tryd.prog 89 #[.int .i64 x, .int .i64 y] w fun e w' => e = .returned (.int .i64 (cmpI x y)) ∧ w' = w := by
  have n1 := nanI_any x w
  have n2 := nanI_any y w
  by_cases h1 : x < y
  · have e : cmpI x y = -1 := by unfold cmpI; simp [h1, way]
    rw [e]
    go_enter Tryd.func89, Tryd.ntmps89
    go_wp2_with fail
    refine n1.mono ?_
    rintro _ _ ⟨rfl, rfl⟩
    go_wp2_with fail
    refine n2.mono ?_
    rintro _ _ ⟨rfl, rfl⟩
    go_wp2_with fail
    go_ret
    exact ⟨rfl, rfl⟩
  by_cases h2 : y < x
  · have e : cmpI x y = 1 := by unfold cmpI; simp [h1, h2, way]
    rw [e]
    go_enter Tryd.func89, Tryd.ntmps89
    go_wp2_with fail
    refine n1.mono ?_
    rintro _ _ ⟨rfl, rfl⟩
    go_wp2_with fail
    refine n2.mono ?_
    rintro _ _ ⟨rfl, rfl⟩
    go_wp2_with fail
    go_ret
    exact ⟨rfl, rfl⟩
  · have e : cmpI x y = 0 := by unfold cmpI; simp [h1, h2, way]
    rw [e]
    go_enter Tryd.func89, Tryd.ntmps89
    go_wp2_with fail
    refine n1.mono ?_
    rintro _ _ ⟨rfl, rfl⟩
    go_wp2_with fail
    refine n2.mono ?_
    rintro _ _ ⟨rfl, rfl⟩
    go_wp2_with fail
    go_ret
    exact ⟨rfl, rfl⟩
theorem cmpD_any (x y : Int) (w : World) :
    Calls Tryd.prog 91 #[.int .u8 x, .int .u8 y] w fun e w' => e = .returned (.int .i64 (cmpI x y)) ∧ w' = w := by
  have n1 := nanB_any x w
  have n2 := nanB_any y w
  by_cases h1 : x < y
  · have e : cmpI x y = -1 := by unfold cmpI; simp [h1, way]
    rw [e]
    go_enter Tryd.func91, Tryd.ntmps91
    go_wp2_with fail
    refine n1.mono ?_
    rintro _ _ ⟨rfl, rfl⟩
    go_wp2_with fail
    refine n2.mono ?_
    rintro _ _ ⟨rfl, rfl⟩
    go_wp2_with fail
    go_ret
    exact ⟨rfl, rfl⟩
  by_cases h2 : y < x
  · have e : cmpI x y = 1 := by unfold cmpI; simp [h1, h2, way]
    rw [e]
    go_enter Tryd.func91, Tryd.ntmps91
    go_wp2_with fail
    refine n1.mono ?_
    rintro _ _ ⟨rfl, rfl⟩
    go_wp2_with fail
    refine n2.mono ?_
    rintro _ _ ⟨rfl, rfl⟩
    go_wp2_with fail
    go_ret
    exact ⟨rfl, rfl⟩
  · have e : cmpI x y = 0 := by unfold cmpI; simp [h1, h2, way]
    rw [e]
    go_enter Tryd.func91, Tryd.ntmps91
    go_wp2_with fail
    refine n1.mono ?_
    rintro _ _ ⟨rfl, rfl⟩
    go_wp2_with fail
    refine n2.mono ?_
    rintro _ _ ⟨rfl, rfl⟩
    go_wp2_with fail
    go_ret
    exact ⟨rfl, rfl⟩
theorem cmpS_any (x y : ByteArray) (w : World) :
    Calls Tryd.prog 90 #[.string x, .string y] w fun e w' => e = .returned (.int .i64 (cmpS x y)) ∧ w' = w := by
  have n1 := nanS_any x w
  have n2 := nanS_any y w
  cases h1 : bef x y
  case true =>
    have e : cmpS x y = -1 := by unfold cmpS; simp [h1, way]
    have g1 : Op.bytesLess x.toList y.toList = true := h1
    rw [e]
    go_enter Tryd.func90, Tryd.ntmps90
    go_wp2_with fail
    refine n1.mono ?_
    rintro _ _ ⟨rfl, rfl⟩
    go_wp2_with fail
    refine n2.mono ?_
    rintro _ _ ⟨rfl, rfl⟩
    go_wp2_with fail
    go_ret
    exact ⟨rfl, rfl⟩
  cases h2 : bef y x
  case true =>
    have e : cmpS x y = 1 := by unfold cmpS; simp [h1, h2, way]
    have g1 : Op.bytesLess x.toList y.toList = false := h1
    have g2 : Op.bytesLess y.toList x.toList = true := h2
    have ne : ¬ x = y := fun q => by rw [q, bef_irrefl] at h2; cases h2
    have g3 : (x.toList == y.toList) = false := by
      rw [ByteArray.toList_eq, ByteArray.toList_eq]
      simpa using fun q => ne (WideShapes.bytes_inj q)
    clear h1 h2 ne
    rw [e]
    go_enter Tryd.func90, Tryd.ntmps90
    go_wp2_with fail
    refine n1.mono ?_
    rintro _ _ ⟨rfl, rfl⟩
    go_wp2_with fail
    refine n2.mono ?_
    rintro _ _ ⟨rfl, rfl⟩
    go_wp2_with fail
    go_ret
    exact ⟨rfl, rfl⟩
  case false =>
    have e : cmpS x y = 0 := by unfold cmpS; simp [h1, h2, way]
    have g0 : x = y := by
      by_cases q : x = y
      · exact q
      · rcases bef_total q with p | p
        · rw [p] at h1; cases h1
        · rw [p] at h2; cases h2
    subst g0
    have g1 : Op.bytesLess x.toList x.toList = false := h1
    have g3 : (x.toList == x.toList) = true := by simp
    clear h1 h2
    rw [e]
    go_enter Tryd.func90, Tryd.ntmps90
    go_wp2_with fail
    refine n1.mono ?_
    rintro _ _ ⟨rfl, rfl⟩
    go_wp2_with fail
    refine n2.mono ?_
    rintro _ _ ⟨rfl, rfl⟩
    go_wp2_with fail
    go_ret
    exact ⟨rfl, rfl⟩
/-- The first of some numbers that is not zero. -/
def fstN : List Int → Int
  | [] => 0
  | x :: r => if x = 0 then fstN r else x
theorem fstN_drop (l : List Int) (k : Nat) (h : k < l.length) : fstN (l.drop k) = if l.getD k 0 = 0 then fstN (l.drop (k + 1)) else l.getD k 0 := by
  rw [List.drop_eq_getElem_cons h, fstN]
  simp [List.getD, List.getElem?_eq_getElem h]
theorem or_any (A : Option Addr) (n c : Nat) (l : List Int) (w : World) (hS : Wd.Sl w .i64 A n c l) (hm : n ≤ 1000000) :
    Calls Tryd.prog 88 #[.slice A n c] w fun e w' => e = .returned (.int .i64 (fstN l)) ∧ w' = w := by
  have Hl := Lib.hid hS.len
  have hcap := hS.cap
  obtain ⟨z, hz⟩ : ∃ z, z = fstN l := ⟨_, rfl⟩
  rw [← hz]
  have Hz := Lib.hid hz
  clear hz
  go_enter Tryd.func88, Tryd.ntmps88
  go_wp2
  go_loopw [5, 8] (fun _ i wr => ∃ k : Nat, i = .int .i64 k ∧ k ≤ n ∧ Hid (fstN (l.drop k) = z) ∧ wr = w) (fun _ i _ => n - (intOf i).toNat)
  case atStart => exact ⟨0, rfl, Nat.zero_le _, Lib.hid (by rw [Hz.out]; rfl), rfl⟩
  case round =>
    obtain ⟨k, rfl, hk, hf, rfl⟩ := hrel
    by_cases hlt : k < n
    · obtain ⟨b, o, rfl, hbB, hcell⟩ := hS.rd k (by rw [← Hl.out]; exact hlt)
      have hst := fstN_drop l k (by rw [← Hl.out]; exact hlt)
      rw [hf.out] at hst
      obtain ⟨x, hx⟩ : ∃ x, x = l.getD k 0 := ⟨_, rfl⟩
      rw [← hx] at hcell hst
      have Hx := Lib.hid hst
      clear hst hx hf
      by_cases h0 : x = 0
      · go_wp2_with fail
        go_roundw
        case rel => exact ⟨k + 1, by go_num, by omega, Lib.hid (by rw [Hx.out, if_pos h0]), by first | rfl | trivial⟩
        case measure => simp [intOf]; omega
      · go_wp2_with fail
        go_ret
        exact ⟨by rw [Hx.out, if_neg h0]; rfl, rfl⟩
    · have hkI : ¬ (k : Int) < n := by omega
      have e : z = 0 := by
        rw [← hf.out, List.drop_of_length_le (by rw [← Hl.out]; omega)]
        rfl
      have He := Lib.hid e
      clear e
      go_wp2_with fail
      go_ret
      exact ⟨by rw [He.out]; rfl, rfl⟩
end Vc
end Go.Proofs.YtnhgijlhnamolaaDoor
namespace Go.Proofs.YtnhgijlhnamolaaDoor
set_option maxRecDepth 20000
open Go.RowKit
namespace Vc
open Va
theorem ord_own (k i : Int) (s : ByteArray) (b : Bool) (k' i' : Int) (s' : ByteArray) (b' : Bool) :
    fstN [cmpI k k', cmpI (ownI k i) (ownI k' i'), cmpS (ownS k s) (ownS k' s'), cmpI (dg (ownB k b)) (dg (ownB k' b'))] = ord ⟨k, i, s, b⟩ ⟨k', i', s', b'⟩ := by
  have zI : cmpI 0 0 = 0 := cmpI_zero.2 rfl
  have zS : cmpS ⟨#[]⟩ ⟨#[]⟩ = 0 := cmpS_zero.2 rfl
  by_cases e : k = k'
  · subst e
    rw [ord_same (a := ⟨k, i, s, b⟩) (b := ⟨k, i', s', b'⟩) rfl]
    unfold ownI ownS ownB dg
    have zk : cmpI k k = 0 := by unfold cmpI; simp [way]
    by_cases h1 : k = 1
    · subst h1
      simp [fstN, zI, zS, zk]
      intro h; exact h.symm
    by_cases h2 : k = 2
    · subst h2
      simp [fstN, zI, zk]
      intro h; exact h.symm
    by_cases h3 : k = 3
    · subst h3
      simp [fstN, zI, zS, zk]
      cases b <;> cases b' <;> decide
    · simp [fstN, zI, zS, zk, h1, h2, h3]
  · unfold ord
    by_cases h : k < k'
    · have : cmpI k k' = -1 := by unfold cmpI; simp [h, way]
      simp [fstN, this, h]
    · have h' : k' < k := by omega
      have : cmpI k k' = 1 := by unfold cmpI; simp [h, h', way]
      simp [fstN, this, h, h']

set_option maxHeartbeats 2000000 in
theorem order_any (k i : Int) (s : ByteArray) (b : Bool) (k' i' : Int) (s' : ByteArray) (b' : Bool) (w : World) :
    Calls Tryd.prog 74 #[.agg #[.int .i64 k, .int .i64 i, .string s, .bool b], .agg #[.int .i64 k', .int .i64 i', .string s', .bool b']] w fun e w' => e = .returned (.int .i64 (ord ⟨k, i, s, b⟩ ⟨k', i', s', b'⟩)) ∧ Below w.heap.size w w' := by
  have Co := Lib.hid own_any
  go_enter Tryd.func74, Tryd.ntmps74
  go_wp2_with fail
  have hb0 : Below w.heap.size w ((w.alloc (.cells #[.int .i64 k, .int .i64 i, .string s, .bool b] 48)).alloc (.cells #[.int .i64 k', .int .i64 i', .string s', .bool b'] 48)) := ((Below.refl _ _).alloc (Nat.le_refl _) _).alloc (by simp) _
  have hz0 : ((w.alloc (.cells #[.int .i64 k, .int .i64 i, .string s, .bool b] 48)).alloc (.cells #[.int .i64 k', .int .i64 i', .string s', .bool b'] 48)).heap.size = w.heap.size + 1 + 1 := by simp
  have v0 : Vb ((w.alloc (.cells #[.int .i64 k, .int .i64 i, .string s, .bool b] 48)).alloc (.cells #[.int .i64 k', .int .i64 i', .string s', .bool b'] 48)) w.heap.size k i s b := (Wd.Bx.new w _ _).alloc _
  have v1 : Vb ((w.alloc (.cells #[.int .i64 k, .int .i64 i, .string s, .bool b] 48)).alloc (.cells #[.int .i64 k', .int .i64 i', .string s', .bool b'] 48)) (w.heap.size + 1) k' i' s' b' := by
    have := Wd.Bx.new (w.alloc (.cells #[.int .i64 k, .int .i64 i, .string s, .bool b] 48)) 48 #[.int .i64 k', .int .i64 i', .string s', .bool b']
    simpa [Vb] using this
  generalize (w.alloc (.cells #[.int .i64 k, .int .i64 i, .string s, .bool b] 48)).alloc (.cells #[.int .i64 k', .int .i64 i', .string s', .bool b'] 48) = w1 at *
  go_cut [] (fun wx => Vb wx w.heap.size k (ownI k i) (ownS k s) (ownB k b) ∧ Vb wx (w.heap.size + 1) k' (ownI k' i') (ownS k' s') (ownB k' b') ∧ Below w.heap.size w wx)
  case first =>
    obtain ⟨⟨u0, u1, u2, u3⟩, -⟩ := four v0
    obtain ⟨⟨u4, u5, u6, u7⟩, -⟩ := four v1
    have tok1 : True := trivial
    have hl0 : w.heap.size < w1.heap.size := by omega
    have hl1 : w.heap.size + 1 < w1.heap.size := by omega
    go_region_with (first | (go_at_call 81; (with_reducible refine (Co.out _ _ _ _ _).mono ?_); have _t := tok1; clear tok1; rintro e w2 ⟨rfl, hB2⟩; have hb2 : Below w1.heap.size w1 w2 := Wd.of_drew hB2; have hz2 := hb2.size; obtain ⟨⟨_, _, _, _⟩, -⟩ := four (Wd.Bx.below v1 hl1 hb2)) | (go_at_call 81; (with_reducible refine (Co.out _ _ _ _ _).mono ?_); rintro e w3 ⟨rfl, hB3⟩; have hb3 : Below w1.heap.size w1 w3 := hb2.trans (hB3.mono hz2); have x0 := Wd.Bx.below v0 hl0 hb3; have x1 := Wd.Bx.below v1 hl1 hb3; obtain ⟨⟨_, _, _, _⟩, _, _, _, _⟩ := four x0; obtain ⟨⟨_, _, _, _⟩, _, _, _, _⟩ := four x1))
    all_goals (go_wp2_with fail; go_meet; exact ⟨(Vb.set x0).other (by omega), (Vb.other x1 (by omega)).set, below_setV (below_setV (hb0.trans (hb3.mono (by omega))) (Nat.le_refl _)) (by omega)⟩)
  case rest =>
    obtain ⟨y0, y1, hB⟩ := hcut
    obtain ⟨⟨c0, c1, c2, c3⟩, -⟩ := four y0
    obtain ⟨⟨c4, c5, c6, c7⟩, -⟩ := four y1
    go_wp2_with fail
    refine wp_region_still_tail 22 (by kernel_rfl) (by kernel_rfl) ?_
    simp only [List.take_succ_cons, List.take_zero, List.drop_succ_cons, List.drop_zero]
    repeat (first | still_call (cmpI_any _ _ _) | still_call (cmpS_any _ _ _) | still_call (digit_any _ _) | still_call (cmpD_any _ _ _) | still_step)
    try refine wpStill_nil ?_
    change wpList _ _ _ _ _ wc.drew
    clear c0 c1 c2 c3 c4 c5 c6 c7 y0 y1
    obtain ⟨r1, hr1⟩ : ∃ r, r = cmpI k k' := ⟨_, rfl⟩
    obtain ⟨r2, hr2⟩ : ∃ r, r = cmpI (ownI k i) (ownI k' i') := ⟨_, rfl⟩
    obtain ⟨r3, hr3⟩ : ∃ r, r = cmpS (ownS k s) (ownS k' s') := ⟨_, rfl⟩
    obtain ⟨r4, hr4⟩ : ∃ r, r = cmpI (dg (ownB k b)) (dg (ownB k' b')) := ⟨_, rfl⟩
    have Hr := Lib.hid (ord_own k i s b k' i' s' b')
    rw [← hr1, ← hr2, ← hr3, ← hr4] at *
    clear hr1 hr2 hr3 hr4
    go_wp2_with fail
    refine (or_any _ 4 4 [r1, r2, r3, r4] _ ((Wd.Sl.lit wc .i64 [r1, r2, r3, r4] _ _ 4 rfl rfl (by decide)).below ((Below.refl _ _).drew)) (by decide)).mono ?_
    rintro e w5 ⟨rfl, rfl⟩
    rw [Hr.out]
    go_wp2_with fail
    go_ret
    exact ⟨rfl, (hB.alloc hB.size _).drew⟩
end Vc
end Go.Proofs.YtnhgijlhnamolaaDoor
