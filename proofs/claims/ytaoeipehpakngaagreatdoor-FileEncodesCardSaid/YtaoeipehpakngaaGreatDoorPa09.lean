/- What the reference of layer 6 does: May. What the comparisons of layer 1's reference do: Same (bytes), Ints (integers). What the reference functions of layer 1 do: digits, PutLen. What the reference functions of layer 1 do: Put (digits, PutLen: NumRefV). What the reference of layer 6 does: Put. and what goes with it. -/
import Derived.WalkLawsBesides
import Derived.WalkKit
import Derived.WalkSpells
import Derived.Lib.Hide
import Derived.Deep.QuietTactic
import Derived.BigQuiet
import Derived.Laws.IdiomStrings
import Derived.Deep.RegionLaw
import Derived.Deep.DeepCutAuto
import Derived.Test.YtaoeipehpakngaaGreatDoorPa07
import Derived.Test.YtaoeipehpakngaaGreatDoorProg
import Derived.Test.YtaoeipehpakngaaGreatDoorPa01
import Derived.Test.YtaoeipehpakngaaGreatDoorPa08
import Derived.Test.YtaoeipehpakngaaGreatDoorPa04
namespace Go.Proofs.YtaoeipehpakngaaGreatDoor
set_option maxRecDepth 20000
open Go.RowKit
namespace Vc
open Va
theorem empty_list (s : ByteArray) : s.toList = [] ↔ s = ⟨#[]⟩ := by
  have := list_beq s ⟨#[]⟩
  rw [show (⟨#[]⟩ : ByteArray).toList = [] by rw [ByteArray.toList_eq]] at this
  constructor
  · intro h; rw [h] at this; simpa using this.symm
  · intro h; subst h; rw [ByteArray.toList_eq]
theorem empty_isEmpty (s : ByteArray) : s.toList.isEmpty = decide (s = ⟨#[]⟩) := by
  rw [Bool.eq_iff_iff]; simp [empty_list]
set_option maxHeartbeats 1000000 in
theorem refMay_any (k i : Int) (s : ByteArray) (b : Bool) (w : World) :
    Calls Tryz.prog 70 #[.agg #[.int .i64 k, .int .i64 i, .string s, .bool b]] w fun e w' => e = .returned (.bool (mayB k i s b)) ∧ Below w.heap.size w w' := by
  obtain ⟨r, hr⟩ : ∃ r, r = mayB k i s b := ⟨_, rfl⟩
  rw [← hr]
  have Hr := Lib.hid hr
  clear hr
  by_cases h0 : k = 0
  · subst h0
    go_enter Tryz.func70, Tryz.ntmps70
    go_wp2_with fail
    all_goals (go_ret; refine ⟨by rw [Hr.out]; simp_all [mayB, empty_list, empty_isEmpty]; try omega, (Below.refl _ _).alloc (Nat.le_refl _) _⟩)
  by_cases h1 : k = 1
  · subst h1
    go_enter Tryz.func70, Tryz.ntmps70
    go_wp2_with fail
    all_goals (go_ret; refine ⟨by rw [Hr.out]; simp_all [mayB, empty_list, empty_isEmpty]; try omega, (Below.refl _ _).alloc (Nat.le_refl _) _⟩)
  by_cases h2 : k = 2
  · subst h2
    go_enter Tryz.func70, Tryz.ntmps70
    go_wp2_with fail
    all_goals (go_ret; refine ⟨by rw [Hr.out]; simp_all [mayB, empty_isEmpty]; try omega, (Below.refl _ _).alloc (Nat.le_refl _) _⟩)
  by_cases h3 : k = 3
  · subst h3
    go_enter Tryz.func70, Tryz.ntmps70
    go_wp2_with fail
    all_goals (go_ret; refine ⟨by rw [Hr.out]; simp_all [mayB, empty_isEmpty]; try omega, (Below.refl _ _).alloc (Nat.le_refl _) _⟩)
  have q0 : (k == 0) = false := by simpa using h0
  have q1 : (k == 1) = false := by simpa using h1
  have q2 : (k == 2) = false := by simpa using h2
  have q3 : (k == 3) = false := by simpa using h3
  have hf := may_else (i := i) (s := s) (b := b) h0 h1 h2 h3
  have Hf := Lib.hid hf
  clear hf h0 h1 h2 h3
  go_enter Tryz.func70, Tryz.ntmps70
  go_wp2_with fail
  go_ret
  exact ⟨by rw [Hr.out, Hf.out]; rfl, (Below.refl _ _).alloc (Nat.le_refl _) _⟩
end Vc
namespace Nc
set_option maxHeartbeats 400000 in
theorem same_any (A B : Option Addr) (n m c d : Nat) (xs ys : List Int) (w : World) (ha : Wd.Sl w .u8 A n c xs) (hb : Wd.Sl w .u8 B m d ys) :
    Calls Tryz.prog 11 #[.slice A n c, .slice B m d] w fun e w' => e = .returned (.bool (decide (xs = ys))) ∧ ∃ q, w' = w.drewN q := by
  obtain ⟨rfl, hc, hx, hA, hr⟩ := ha
  obtain ⟨rfl, hd, hy, hB, hs⟩ := hb
  unfold maxLen at hx hy
  by_cases hl : xs.length = ys.length
  · have hne : ((xs.length : Int) != (ys.length : Int)) = false := by rw [hl]; simp
    have Hl := Lib.hid hl
    clear hl
    rcases Nat.eq_zero_or_pos xs.length with h0 | h0
    · have hx0 : xs = [] := List.eq_nil_of_length_eq_zero h0
      have hy0 : ys = [] := List.eq_nil_of_length_eq_zero (by rw [← Hl.out]; exact h0)
      subst hx0
      subst hy0
      go_enter Tryz.func11, Tryz.ntmps11
      go_wp2_with fail
      refine wp_loop_rounds 1 ?_
      rw [rounds_succ]
      go_wp2_with fail
      go_ret
      exact ⟨rfl, 0, rfl⟩
    · obtain ⟨a1, o1, rfl, _, hcx⟩ := hr.some_ h0
      obtain ⟨a2, o2, rfl, _, hcy⟩ := hs.some_ (by rw [← Hl.out]; exact h0)
      clear hr hs hA hB
      have hle1 : xs.length ≤ ys.length := by rw [Hl.out]; exact Nat.le_refl _
      have hle2 : ys.length ≤ xs.length := by rw [Hl.out]; exact Nat.le_refl _
      go_enter Tryz.func11, Tryz.ntmps11
      go_wp2_with fail
      go_loopw [5] (fun i wr => ∃ (k q : Nat), i = .int .i64 k ∧ k ≤ xs.length ∧ wr = w.drewN q ∧ xs.take k = ys.take k) (fun i _ => xs.length - (intOf i).toNat)
      case atStart => exact ⟨0, 0, rfl, Nat.zero_le _, rfl, rfl⟩
      case round =>
        obtain ⟨k, q, rfl, hk, rfl, ht⟩ := hrel
        have Ht := Lib.hid ht
        clear ht
        by_cases hlt : k < xs.length
        · have hlt2 : k < ys.length := by omega
          have c1 := hcx k hlt
          have c2 := hcy k hlt2
          obtain ⟨x, hx'⟩ : ∃ x, x = xs.getD k 0 := ⟨_, rfl⟩
          obtain ⟨y, hy'⟩ : ∃ y, y = ys.getD k 0 := ⟨_, rfl⟩
          rw [← hx'] at c1
          rw [← hy'] at c2
          have Hx := Lib.hid hx'
          have Hy := Lib.hid hy'
          clear hx' hy' hcx hcy
          have i1 : (k : Int) < (xs.length : Int) := by omega
          have i2 : (k : Int) < (ys.length : Int) := by omega
          by_cases hxy : x = y
          · have hbq : (x != y) = false := by rw [hxy]; simp
            have Hxy := Lib.hid hxy
            clear hxy
            go_wp2_with fail
            go_quiet (fail)
            go_wp2_with fail
            go_roundw
            case rel =>
              refine ⟨k + 1, _, by go_num, by omega, rfl, ?_⟩
              rw [List.take_succ_eq_append_getElem hlt, List.take_succ_eq_append_getElem hlt2, Ht.out]
              have e1 := Hx.out
              have e2 := Hy.out
              simp only [List.getD, List.getElem?_eq_getElem hlt, List.getElem?_eq_getElem hlt2, Option.getD_some] at e1 e2
              rw [← e1, ← e2, Hxy.out]
            case measure => simp [intOf]; omega
          · have hbq : (x != y) = true := by rw [bne_iff_ne]; exact hxy
            have Hxy := Lib.hid hxy
            clear hxy
            go_wp2_with fail
            go_quiet (fail)
            go_wp2_with fail
            go_ret
            refine ⟨?_, _, World.drewN_drewN _ _ _⟩
            rw [decide_eq_false (fun e => Hxy.out (by rw [Hx.out, Hy.out, e]))]
            rfl
        · go_wp2_with fail
          go_ret
          refine ⟨?_, _, rfl⟩
          have := Ht.out
          rw [List.take_of_length_le (by omega), List.take_of_length_le (by omega)] at this
          rw [decide_eq_true this]
          rfl
  · have hne : ((xs.length : Int) != (ys.length : Int)) = true := by rw [bne_iff_ne]; omega
    go_enter Tryz.func11, Tryz.ntmps11
    go_wp2_with fail
    go_ret
    refine ⟨?_, 0, rfl⟩
    rw [decide_eq_false (fun e => hl (by rw [e]))]
    rfl
theorem same_yes (A B : Option Addr) (n m c d : Nat) (xs ys : List Int) (w : World) (ha : Wd.Sl w .u8 A n c xs) (hb : Wd.Sl w .u8 B m d ys) (h : xs = ys) :
    Calls Tryz.prog 11 #[.slice A n c, .slice B m d] w fun e w' => e = .returned (.bool true) ∧ Below w.heap.size w w' :=
  (same_any A B n m c d xs ys w ha hb).mono fun _ _ ⟨he, q, hq⟩ => ⟨by rw [he, decide_eq_true h], by rw [hq]; exact Wd.below_drewN (Below.refl _ _) q⟩
end Nc
namespace Nc
set_option maxHeartbeats 400000 in
theorem digits_own (f : Nat) : ∀ (half odd : Int) (w : World), f ≤ 9 → 0 ≤ half → half ≤ 9223372036854775807 → 0 ≤ odd → odd ≤ 1 → 2 * half + odd < 128 ^ (f + 1) →
    Calls Tryz.prog 57 #[.int .i64 half, .int .i64 odd] w fun e w' => ∃ v, e = .returned v ∧ w'.ownsRow w.heap.size 5 1 v (Nm.vdF f (2 * half + odd)).length ((Nm.vdF f (2 * half + odd)).map (Value.int .u8)) ∧ Below w.heap.size w w' := by
  obtain ⟨i0, hi, hz0, hz1, hz2⟩ := info_parts info_u8
  induction f with
  | zero =>
    intro half odd w hf9 h0 h1 o0 o1 hf
    have hf' : half ≤ 63 := by simp at hf; omega
    clear hf
    go_enter Tryz.func57, Tryz.ntmps57
    go_wp2_with fail
    go_ret
    refine ⟨_, rfl, ?_, (Below.refl _ _).alloc (Nat.le_refl _) _⟩
    exact World.ownsRow_lit w _ 1 (Nat.le_refl _) (by simp [maxLen]) rfl
  | succ f ih =>
    intro half odd w hf9 h0 h1 o0 o1 hf
    by_cases hh : half < 64
    · rw [Nm.vdF_lo _ _ (by omega)]
      clear hf
      go_enter Tryz.func57, Tryz.ntmps57
      go_wp2_with fail
      go_ret
      refine ⟨_, rfl, ?_, (Below.refl _ _).alloc (Nat.le_refl _) _⟩
      exact World.ownsRow_lit w _ 1 (Nat.le_refl _) (by simp [maxLen]) rfl
    · have hc := ih (half / 64 / 2) (half / 64 % 2) w (by omega) (by omega) (by omega) (by omega) (by omega) (by rw [Int.pow_succ] at hf; omega)
      have e1 : 2 * (half / 64 / 2) + half / 64 % 2 = (2 * half + odd) / 128 := by omega
      have hf' := (Nm.vdF_len f ((2 * half + odd) / 128)).2
      rw [e1] at hc
      have hv := Nm.vdF_hi f (2 * half + odd) (by omega)
      have e2 : (2 * half + odd) % 128 + 128 = 2 * (half % 64) + odd + 128 := by omega
      rw [e2] at hv
      rw [hv]
      generalize Nm.vdF f ((2 * half + odd) / 128) = ds at *
      have Hc := Lib.hid hc
      clear hv e1 e2 hc ih hf
      go_enter Tryz.func57, Tryz.ntmps57
      go_wp2_with fail
      refine Hc.out.mono ?_
      rintro e w1 ⟨v1, rfl, hO1, hB⟩
      obtain ⟨A, n, c, rfl, hS⟩ := Wd.Sl.of_own hO1
      have hn := hS.len
      clear hO1
      have Hn := Lib.hid hn
      clear hn
      go_wp2_with (at_builtin; refine Wd.wpList_app _ rfl (.tmp 28) (.tmp 29) 32 rfl w1.heap.size 5 i0 _ .u8 1 Tryz.underlying32 hi hz0 hz1 hz2 rfl (.slice (some ⟨w1.heap.size, 0, none⟩) 1 1) [2 * (half % 64) + odd + 128] rfl (World.ownsRow_lit w1 _ 1 (Nat.le_refl _) (by simp [maxLen]) rfl) w1.heap.size A n c ds rfl Hn.out hS.nil (hS.rd.below ((Below.refl _ _).alloc (Nat.le_refl _) _)) (by simp; omega) (by simp [maxLen]; omega) (by simp) ?_; intro v' w2 hown hbel)
      go_ret
      refine ⟨_, rfl, Wd.own_down hown hB.size, ?_⟩
      exact hB.trans ((((Below.refl _ _).alloc (Nat.le_refl _) _).grown hbel (by simp) (by simp [Value.ownBlock])).mono hB.size)
theorem digits_any (f : Nat) (half odd : Int) (w : World) (hf : f ≤ 9) (h0 : 0 ≤ half) (h1 : half ≤ 9223372036854775807) (o0 : 0 ≤ odd) (o1 : odd ≤ 1) (hb : 2 * half + odd < 128 ^ (f + 1)) :
    Calls Tryz.prog 57 #[.int .i64 half, .int .i64 odd] w (Wd.Out w .u8 (Nm.vdF f (2 * half + odd))) :=
  (digits_own f half odd w hf h0 h1 o0 o1 hb).mono fun _ _ ⟨_, he, ho, hb⟩ => he ▸ Wd.Out.of_own ho hb
theorem refPutLen_own (n : Int) (w : World) (h0 : 0 ≤ n) (h1 : n ≤ 9223372036854775807) :
    Calls Tryz.prog 24 #[.int .i64 n] w fun e w' => ∃ v, e = .returned v ∧ w'.ownsRow w.heap.size 5 1 v (Nm.vd n).length ((Nm.vd n).map (Value.int .u8)) ∧ Below w.heap.size w w' := by
  have hc := digits_own 9 (n / 2) (n % 2) w (by omega) (by omega) (by omega) (by omega) (by omega) (by rw [Nm.pow10]; omega)
  have e : 2 * (n / 2) + n % 2 = n := by omega
  rw [e] at hc
  have Hc := Lib.hid hc
  clear hc e
  go_enter Tryz.func24, Tryz.ntmps24
  go_wp2_with fail
  refine Hc.out.mono ?_
  rintro e w1 ⟨v, rfl, hO⟩
  go_wp2_with fail
  go_ret
  exact ⟨v, rfl, hO⟩
theorem refPutLen_any (n : Int) (w : World) (h0 : -9223372036854775808 ≤ n) (h1 : n ≤ 9223372036854775807) :
    Calls Tryz.prog 24 #[.int .i64 n] w (Wd.Out w .u8 (if n < 0 then [] else Nm.vd n)) := by
  by_cases hn : n < 0
  · rw [if_pos hn]
    go_enter Tryz.func24, Tryz.ntmps24
    go_wp2_with fail
    go_ret
    exact ⟨none, 0, 0, rfl, Wd.Sl.none_ _ _, Below.refl _ _⟩
  · rw [if_neg hn]
    have hc := digits_any 9 (n / 2) (n % 2) w (by omega) (by omega) (by omega) (by omega) (by omega) (by rw [Nm.pow10]; omega)
    have e : 2 * (n / 2) + n % 2 = n := by omega
    rw [e] at hc
    have Hc := Lib.hid hc
    have hn' : 0 ≤ n := by omega
    clear hc e hn
    go_enter Tryz.func24, Tryz.ntmps24
    go_wp2_with fail
    refine Hc.out.mono ?_
    rintro e w1 ⟨A, n, c, rfl, hS⟩
    go_wp2_with fail
    go_ret
    exact ⟨A, n, c, rfl, hS⟩
end Nc
namespace Nc
theorem refPut_own (n : Int) (w : World) (h0 : -9223372036854775808 ≤ n) (h1 : n ≤ 9223372036854775807) :
    Calls Tryz.prog 103 #[.int .i64 n] w fun e w' => ∃ v, e = .returned v ∧ w'.ownsRow w.heap.size 5 1 v (Nm.vd (Nm.zz n)).length ((Nm.vd (Nm.zz n)).map (Value.int .u8)) ∧ Below w.heap.size w w' := by
  by_cases hn : n < 0
  · have hc := digits_own 9 (-(n + 1)) 1 w (by omega) (by omega) (by omega) (by omega) (by omega) (by rw [Nm.pow10]; omega)
    have e : 2 * -(n + 1) + 1 = Nm.zz n := by unfold Nm.zz; rw [if_pos hn]; omega
    rw [e] at hc
    have Hc := Lib.hid hc
    clear hc e
    go_enter Tryz.func103, Tryz.ntmps103
    go_wp2_with fail
    refine Hc.out.mono ?_
    rintro e w1 ⟨v, rfl, hO⟩
    go_wp2_with fail
    go_ret
    exact ⟨v, rfl, hO⟩
  · have hc := digits_own 9 n 0 w (by omega) (by omega) (by omega) (by omega) (by omega) (by rw [Nm.pow10]; omega)
    have e : 2 * n + 0 = Nm.zz n := by unfold Nm.zz; rw [if_neg hn]; omega
    rw [e] at hc
    have Hc := Lib.hid hc
    clear hc e
    go_enter Tryz.func103, Tryz.ntmps103
    go_wp2_with fail
    refine Hc.out.mono ?_
    rintro e w1 ⟨v, rfl, hO⟩
    go_wp2_with fail
    go_ret
    exact ⟨v, rfl, hO⟩
theorem refPut_any (n : Int) (w : World) (h0 : -9223372036854775808 ≤ n) (h1 : n ≤ 9223372036854775807) :
    Calls Tryz.prog 103 #[.int .i64 n] w (Wd.Out w .u8 (Nm.vd (Nm.zz n))) :=
  (refPut_own n w h0 h1).mono fun _ _ ⟨_, he, ho, hb⟩ => he ▸ Wd.Out.of_own ho hb
end Nc
namespace Vc
open Va Nc
def bcap (w : World) (s : ByteArray) : Nat := grownCap w s.size 0 5
def bobj (w : World) (s : ByteArray) : Obj := .cells (bytesRow s (bcap w s)) 5 ((bytesRow s (bcap w s)).size, (bytesRow s (bcap w s)).size + 1)
theorem run_bytes (w : World) (s : ByteArray) : (convert 9 32 (.string s)).run Tryz.prog w = .ok (.slice (some ⟨w.heap.size, 0, none⟩) s.size (bcap w s)) (w.drew.alloc (bobj w s)) :=
  run_bytes_of_string w 9 32 5 s Tryz.underlying9 Tryz.underlying32 Tryz.underlying5
theorem bytes_sl (w : World) (s : ByteArray) (hs : s.size ≤ 1000000) : Wd.Sl (w.drew.alloc (bobj w s)) .u8 (some ⟨w.heap.size, 0, none⟩) s.size (bcap w s) (byts s) := by
  refine ⟨(byts_len s).symm, grownCap_ge w s.size 0 _, grownCap_le_maxLen w s.size 0 _ (by unfold maxLen; omega), by simp, ?_⟩
  refine (Wd.Rd.mk (b := w.heap.size) (o := 0) (by simp) fun j hj => ?_)
  rw [byts_len] at hj
  have e := heap_alloc_new w.drew (bobj w s)
  have h := cell_of_row (w.drew.alloc (bobj w s)) w.heap.size j (bytesRow s (bcap w s)) 5 _ e
  rw [Nat.zero_add, h, bytesRow_at s _ j (by simpa using hj)]
  unfold byts
  have hj' : j < s.data.size := hj
  simp [List.getD, List.getElem?_map]
  rw [Array.getElem?_eq_getElem hj']
  rfl
def putR (k i : Int) (s : ByteArray) (b : Bool) : List Int := if mayB k i s b then Va.put ⟨k, i, s, b⟩ else []
def Out2N (w : World) (ys : List Int) (er : Int) (e : Ending) (w' : World) : Prop :=
  ∃ A n c, e = .returned (.tuple #[.slice A n c, .int .i64 er]) ∧ Wd.Sl w' .u8 A n c ys ∧ Below w.heap.size w w' ∧ ∀ a, A = some a → w.heap.size ≤ a.block
theorem own_new {w : World} {B B' : Nat} {e : TypeId} {size n m c : Nat} {A : Option Addr} {xs : List Value} (h : w.ownsRow B e size (.slice A m c) n xs) (hB : B' ≤ B) : ∀ a, A = some a → B' ≤ a.block := by
  rcases h.2 with ⟨h0, _⟩ | ⟨g, cap, cur, h1, h2, _⟩
  · intro a ha
    simp only [Value.slice.injEq] at h0
    rw [h0.1] at ha
    cases ha
  · intro a ha
    simp only [Value.slice.injEq] at h1
    rw [h1.1] at ha
    cases ha
    exact Nat.le_trans hB h2
set_option maxHeartbeats 2000000 in
theorem refPutV_new (k i : Int) (s : ByteArray) (b : Bool) (w : World) (h0 : -9223372036854775808 ≤ i) (h1 : i ≤ 9223372036854775807) :
    Calls Tryz.prog 61 #[.agg #[.int .i64 k, .int .i64 i, .string s, .bool b]] w (Out2N w (putR k i s b) (putE k i s b)) := by
  obtain ⟨i0, hi, hz0, hz1, hz2⟩ := info_parts info_u8
  have hb0 := (Below.refl w.heap.size w).alloc (Nat.le_refl _) (.cells #[.int .i64 k, .int .i64 i, .string s, .bool b] 47)
  have v0 : Vb (w.alloc (.cells #[.int .i64 k, .int .i64 i, .string s, .bool b] 47)) w.heap.size k i s b := Wd.Bx.new w _ _
  have Cm := Lib.hid fun w => refMay_any k i s b w
  cases hmay : mayB k i s b
  case false =>
    unfold putR putE
    rw [hmay] at Cm ⊢
    clear hmay
    go_enter Tryz.func61, Tryz.ntmps61
    go_wp2_with fail
    refine (Cm.out _).mono ?_
    rintro e w2 ⟨rfl, hB2⟩
    go_wp2_with fail
    go_ret2
    exact ⟨none, 0, 0, rfl, Wd.Sl.none_ _ _, hb0.trans (hB2.mono hb0.size), fun a ha => by cases ha⟩
  case true =>
    have hM := (mayB_iff k i s b).1 hmay
    rw [hmay] at Cm
    have he : putE k i s b = 0 := by unfold putE; rw [hmay]; rfl
    have hl : putR k i s b = Va.put ⟨k, i, s, b⟩ := by unfold putR; rw [hmay]; rfl
    rw [he, hl]
    clear he hl hmay
    unfold May at hM
    simp only [] at hM
    rcases hM with ⟨rfl, rfl, rfl, rfl⟩ | ⟨rfl, rfl, rfl⟩ | ⟨rfl, rfl, hs, rfl⟩ | ⟨rfl, rfl, rfl⟩
    · rw [show Va.put ⟨0, 0, ⟨#[]⟩, false⟩ = [] from rfl]
      go_enter Tryz.func61, Tryz.ntmps61
      go_wp2_with fail
      refine (Cm.out _).mono ?_
      rintro e w2 ⟨rfl, hB2⟩
      have hb2 := hb0.trans (hB2.mono hb0.size)
      obtain ⟨⟨u0, u1, u2, u3⟩, -⟩ := four (v0.below (Wd.Bx.lt v0) hB2)
      go_wp2_with fail
      go_ret2
      exact ⟨none, 0, 0, rfl, Wd.Sl.none_ _ _, hb2, fun a ha => by cases ha⟩
    · rw [show Va.put ⟨1, i, ⟨#[]⟩, false⟩ = Nm.vd (Nm.zz i) from rfl]
      go_enter Tryz.func61, Tryz.ntmps61
      go_wp2_with fail
      refine (Cm.out _).mono ?_
      rintro e w2 ⟨rfl, hB2⟩
      have hb2 := hb0.trans (hB2.mono hb0.size)
      obtain ⟨⟨u0, u1, u2, u3⟩, -⟩ := four (v0.below (Wd.Bx.lt v0) hB2)
      go_wp2_with fail
      refine (Nc.refPut_own i w2 h0 h1).mono ?_
      rintro e w3 ⟨v3, rfl, hO3, hB3⟩
      obtain ⟨A3, n3, c3, rfl, hS3⟩ := Wd.Sl.of_own hO3
      have hnew := Lib.hid (own_new hO3 hb2.size)
      clear hO3
      go_wp2_with fail
      go_ret2
      exact ⟨A3, n3, c3, rfl, hS3, hb2.trans (hB3.mono hb2.size), hnew.out⟩
    · rw [show Va.put ⟨2, 0, s, false⟩ = Nm.vd (s.size : Int) ++ byts s from rfl]
      have hvl := Nm.vd_len (s.size : Int)
      have Hp := Lib.hid fun w' => refPutLen_own (s.size : Int) w' (by omega) (by omega)
      have hcv := fun w => run_bytes w s
      have Hsl := Lib.hid fun w => bytes_sl w s (by omega)
      have Hbl := Lib.hid (byts_len s)
      obtain ⟨vs, hvs⟩ : ∃ vs, vs = Nm.vd (s.size : Int) := ⟨_, rfl⟩
      rw [← hvs] at Hp hvl ⊢
      clear hvs
      go_enter Tryz.func61, Tryz.ntmps61
      go_wp2_with fail
      refine (Cm.out _).mono ?_
      rintro e w2 ⟨rfl, hB2⟩
      have hb2 := hb0.trans (hB2.mono hb0.size)
      have v2 := v0.below (Wd.Bx.lt v0) hB2
      have hl2 := Wd.Bx.lt v2
      obtain ⟨⟨u0, u1, u2, u3⟩, -⟩ := four v2
      have Hv2 := Lib.hid v2
      have Hb2 := Lib.hid hb2
      clear v0 v2 hb0 hB2 Cm hb2
      go_upto_region 8 with fail
      have hA2 : Below w2.heap.size w2 (w2.drew.alloc (bobj w2 s)) := ((Below.refl w2.heap.size w2).drew).alloc (Nat.le_refl _) _
      have cA2 := (hA2.cell (p := ⟨w.heap.size, 2, none⟩) hl2).trans u2
      have hA2' : Below w2.heap.size w2 (w2.drew.drew.alloc (bobj w2.drew s)) := ((Below.refl w2.heap.size w2).drew.drew).alloc (Nat.le_refl _) _
      go_region_law (first | (go_simp; go_at_call 24; (with_reducible refine (Hp.out w2.drew).mono ?_); rintro e w3 ⟨v3, rfl, hO3, hB3⟩; have hb3 : Below w2.heap.size w2 w3 := Wd.of_drew hB3; have hsz3 := hb3.size; have c3 := (hb3.cell (p := ⟨w.heap.size, 2, none⟩) hl2).trans u2; have hA3 : Below w2.heap.size w2 (w3.drew.alloc (bobj w3 s)) := (hb3.drew).alloc hsz3 _; have cA3 := (hA3.cell (p := ⟨w.heap.size, 2, none⟩) hl2).trans u2; have hO3' := Wd.own_below hO3 (((Below.refl w3.heap.size w3).drew).alloc (Nat.le_refl _) (bobj w3 s)); have hL3 := Hsl.out w3; have hz3 : w2.heap.size ≤ (w3.drew.alloc (bobj w3 s)).heap.size := hA3.size) | (refine Wd.step_app _ rfl (.tmp 21) (.tmp 24) 32 rfl w2.heap.size 5 i0 _ .u8 1 Tryz.underlying32 hi hz0 hz1 hz2 rfl v3 vs rfl hO3' _ (some ⟨w3.heap.size, 0, none⟩) s.size (bcap w3 s) (byts s) rfl (Hbl.out.symm) (by simp) hL3.rd (by rw [Hbl.out]; omega) (by rw [Hbl.out]; unfold maxLen; omega) hz3 ?_; intro v4 w4 hO4 hg4; have hb4 : Below w2.heap.size w2 w4 := hA3.grown hg4 hz3 fun g hg => (hO3'.lt g hg).1; have c4 := (hb4.cell (p := ⟨w.heap.size, 2, none⟩) hl2).trans u2) | (go_simp; go_at_call 24; (with_reducible refine (Hp.out _).mono ?_); rintro e w5 ⟨v5, rfl, hO5, hB5⟩; have hb52 : Below (w2.drew.drew.alloc (bobj w2.drew s)).heap.size (w2.drew.drew.alloc (bobj w2.drew s)) w5 := hB5; have hb5 : Below w2.heap.size w2 w5 := hA2'.trans (hb52.mono hA2'.size); have hsz5 := hb5.size; have hO5' := Wd.own_down hO5 hA2'.size; have c3 := (hb5.cell (p := ⟨w.heap.size, 2, none⟩) hl2).trans u2; have hL5 := (Hsl.out w2.drew).below hb52) | (refine Wd.step_app _ rfl (.tmp 21) (.tmp 24) 32 rfl w2.heap.size 5 i0 _ .u8 1 Tryz.underlying32 hi hz0 hz1 hz2 rfl v5 vs rfl hO5' _ (some ⟨w2.heap.size, 0, none⟩) s.size (bcap w2.drew s) (byts s) rfl (Hbl.out.symm) (by simp) hL5.rd (by rw [Hbl.out]; omega) (by rw [Hbl.out]; unfold maxLen; omega) hsz5 ?_; intro v4 w4 hO4 hg4; have hb4 : Below w2.heap.size w2 w4 := hb5.grown hg4 hsz5 fun g hg => (hO5'.lt g hg).1; have c4 := (hb4.cell (p := ⟨w.heap.size, 2, none⟩) hl2).trans u2))
      all_goals
        go_wp2_with fail
        go_ret2
        have hO4' := hO4
        obtain ⟨A4, n4, k4, rfl, hS4⟩ := Wd.Sl.of_own hO4
        have hnew := Lib.hid (own_new hO4' Hb2.out.size)
        exact ⟨A4, n4, k4, rfl, hS4, Hb2.out.trans (hb4.mono Hb2.out.size), hnew.out⟩
    · cases b
      all_goals
        first | rw [show Va.put ⟨3, 0, ⟨#[]⟩, true⟩ = [1] from rfl] | rw [show Va.put ⟨3, 0, ⟨#[]⟩, false⟩ = [0] from rfl]
        go_enter Tryz.func61, Tryz.ntmps61
        go_wp2_with fail
        refine (Cm.out _).mono ?_
        rintro e w2 ⟨rfl, hB2⟩
        have hb2 := hb0.trans (hB2.mono hb0.size)
        obtain ⟨⟨u0, u1, u2, u3⟩, -⟩ := four (v0.below (Wd.Bx.lt v0) hB2)
        go_wp2_with fail
        go_ret2
        exact ⟨_, _, _, rfl, Wd.Sl.lit w2 .u8 _ _ _ 1 rfl rfl (by decide), hb2.alloc hb2.size _, fun a ha => by cases ha; exact hb2.size⟩
end Vc
namespace Sx
open Sc (Col Sch nameOk sgn tr tr_yes tr_no)
open Va (byts byts_len)
def sgB (x : Int) : Bool := (decide (97 ≤ x) && decide (x ≤ 122)) || (decide (48 ≤ x) && decide (x ≤ 57)) || decide (x = 95)
theorem sgB_iff (x : Int) : sgB x = true ↔ sgn x := by
  unfold sgB sgn
  simp [or_assoc]
theorem maySign_any (x : Int) (w : World) :
    Calls Tryz.prog 178 #[.int .u8 x] w fun e w' => e = .returned (.bool (sgB x)) ∧ w' = w := by
  obtain ⟨r, hr⟩ : ∃ r, r = sgB x := ⟨_, rfl⟩
  rw [← hr]
  have Hr := Lib.hid hr
  clear hr
  go_enter Tryz.func178, Tryz.ntmps178
  go_wp2_with fail
  all_goals (go_ret; refine ⟨?_, rfl⟩; rw [Hr.out]; unfold sgB; refine congrArg Ending.returned (congrArg Value.bool (?_ : _ = _)); rw [Bool.eq_iff_iff]; simp; omega)
theorem mayKind_any (k : Int) (w : World) :
    Calls Tryz.prog 128 #[.int .i64 k] w fun e w' => e = .returned (.bool (decide (1 ≤ k ∧ k ≤ 3))) ∧ w' = w := by
  obtain ⟨r, hr⟩ : ∃ r, r = decide (1 ≤ k ∧ k ≤ 3) := ⟨_, rfl⟩
  rw [← hr]
  have Hr := Lib.hid hr
  clear hr
  by_cases h1 : k = 1
  · subst h1
    go_enter Tryz.func128, Tryz.ntmps128
    go_wp2_with fail
    go_ret
    exact ⟨by rw [Hr.out]; rfl, rfl⟩
  by_cases h2 : k = 2
  · subst h2
    go_enter Tryz.func128, Tryz.ntmps128
    go_wp2_with fail
    go_ret
    exact ⟨by rw [Hr.out]; rfl, rfl⟩
  by_cases h3 : k = 3
  · subst h3
    go_enter Tryz.func128, Tryz.ntmps128
    go_wp2_with fail
    go_ret
    exact ⟨by rw [Hr.out]; rfl, rfl⟩
  have q1 : (k == 1) = false := by simpa using h1
  have q2 : (k == 2) = false := by simpa using h2
  have q3 : (k == 3) = false := by simpa using h3
  have hf : r = false := by rw [Hr.out]; exact decide_eq_false (by omega)
  subst hf
  clear Hr h1 h2 h3
  go_enter Tryz.func128, Tryz.ntmps128
  go_wp2_with fail
  go_ret
  exact ⟨rfl, rfl⟩
theorem sgn_at {s : ByteArray} {k : Nat} (hk : k < s.size) (h : ∀ x ∈ byts s, sgn x) : sgn ((byts s).getD k 0) := h _ (by
  have : k < (byts s).length := by rw [byts_len]; exact hk
  simp [List.getD, List.getElem?_eq_getElem this])
theorem nameOk_of {s : ByteArray} (h1 : 1 ≤ s.size) (h2 : s.size ≤ 16) (h : ∀ j, j < s.size → sgn ((byts s).getD j 0)) : nameOk s := by
  refine ⟨h1, h2, fun x hx => ?_⟩
  obtain ⟨i, hi, e⟩ := List.getElem_of_mem hx
  have := h i (by rw [byts_len] at hi; exact hi)
  rw [List.getD, List.getElem?_eq_getElem hi] at this
  simp only [Option.getD_some] at this
  rw [e] at this
  exact this
set_option maxHeartbeats 1000000 in
theorem mayName_any (s : ByteArray) (w : World) :
    Calls Tryz.prog 126 #[.string s] w fun e w' => e = .returned (.bool (tr (nameOk s))) ∧ Below w.heap.size w w' := by
  by_cases h0 : s.size = 0
  · rw [tr_no (fun h => by have := h.1; omega)]
    have q0 : ((s.size : Int) == 0) = true := by simpa using h0
    clear h0
    go_enter Tryz.func126, Tryz.ntmps126
    go_wp2_with fail
    go_ret
    exact ⟨rfl, Below.refl _ _⟩
  have q0 : ((s.size : Int) == 0) = false := by simpa using h0
  have p0 : 0 < s.size := by omega
  by_cases h1 : 16 < s.size
  · rw [tr_no (fun h => by have := h.2.1; omega)]
    have q1 : (16 : Int) < (s.size : Int) := by omega
    clear h0 h1
    go_enter Tryz.func126, Tryz.ntmps126
    go_wp2_with fail
    go_ret
    exact ⟨rfl, Below.refl _ _⟩
  have q1 : ¬ (16 : Int) < (s.size : Int) := by omega
  have hcv := fun w => Vc.run_bytes w s
  have hsl := Vc.bytes_sl w s (by omega)
  have hb0 : Below w.heap.size w (w.drew.alloc (Vc.bobj w s)) := ((Below.refl w.heap.size w).drew).alloc (Nat.le_refl _) _
  rw [show w.drew.alloc (Vc.bobj w s) = (w.alloc (Vc.bobj w s)).drew from rfl] at hsl hb0
  have Hs := Lib.hid (show 1 ≤ s.size ∧ s.size ≤ 16 by omega)
  obtain ⟨r, hr⟩ : ∃ r, r = tr (nameOk s) := ⟨_, rfl⟩
  rw [← hr]
  have Hr := Lib.hid hr
  clear hr h0 h1
  go_enter Tryz.func126, Tryz.ntmps126
  go_wp2
  generalize (w.alloc (Vc.bobj w s)).drew = wa at *
  have hcap := hsl.cap
  have HS := Lib.hid hsl
  clear hsl
  go_loopw [4, 16] (fun _ i wr => ∃ k : Nat, i = .int .i64 k ∧ k ≤ s.size ∧ Hid (∀ j, j < k → sgn ((byts s).getD j 0)) ∧ wr = wa) (fun _ i _ => s.size - (intOf i).toNat)
  case atStart => exact ⟨0, rfl, Nat.zero_le _, Lib.hid (fun j hj => by omega), rfl⟩
  case round =>
    obtain ⟨k, rfl, hk, hf, rfl⟩ := hrel
    by_cases hlt : k < s.size
    · obtain ⟨b, o, he, hbB, hcell⟩ := HS.out.rd k (by rw [byts_len]; exact hlt)
      cases he
      obtain ⟨x, hx⟩ : ∃ x, x = (byts s).getD k 0 := ⟨_, rfl⟩
      rw [← hx, Nat.zero_add] at hcell
      have Hx := Lib.hid hx
      clear hx
      go_wp2_with fail
      refine (maySign_any x wr).mono ?_
      rintro e w1 ⟨rfl, rfl⟩
      cases hg : sgB x
      · have Hg := Lib.hid hg
        clear hg
        go_wp2_with fail
        go_ret
        refine ⟨?_, hb0⟩
        rw [Hr.out, tr_no (fun h => by
          have := sgn_at hlt h.2.2
          rw [← Hx.out, ← sgB_iff, Hg.out] at this
          cases this)]
        rfl
      · have Hg := Lib.hid hg
        clear hg
        go_wp2_with fail
        go_roundw
        case rel =>
          refine ⟨k + 1, by go_num, by omega, Lib.hid fun j hj => ?_, by first | rfl | trivial⟩
          by_cases hjk : j = k
          · rw [hjk, ← Hx.out]; exact (sgB_iff x).1 Hg.out
          · exact hf.out j (by omega)
        case measure => simp [intOf]; omega
    · have hkI : ¬ (k : Int) < s.size := by omega
      have e : r = true := by
        rw [Hr.out]
        exact tr_yes (nameOk_of Hs.out.1 Hs.out.2 fun j hj => hf.out j (by omega))
      have He := Lib.hid e
      clear e hf
      go_wp2_with fail
      go_ret
      exact ⟨by rw [He.out]; rfl, hb0⟩
end Sx
end Go.Proofs.YtaoeipehpakngaaGreatDoor
namespace Go.Proofs.YtaoeipehpakngaaGreatDoor
set_option maxRecDepth 20000
open Go.RowKit
namespace Sx
open Sc (Col Sch nameOk sgn tr tr_yes tr_no)
open Va (byts byts_len Vl)
theorem byts_at {s : ByteArray} {k : Nat} (h : k < s.size) : (byts s).getD k 0 = (s[k].toNat : Int) := by
  unfold byts
  have h' : k < s.data.size := h
  simp [List.getD, List.getElem?_map]
  rw [Array.getElem?_eq_getElem h']
  rfl
set_option maxHeartbeats 1000000 in
theorem refName_any (s : ByteArray) (w : World) :
    Calls Tryz.prog 52 #[.string s] w fun e w' => e = .returned (.bool (tr (nameOk s))) ∧ Below w.heap.size w w' := by
  by_cases h0 : s.size = 0
  · rw [tr_no (fun h => by have := h.1; omega)]
    have q0 : (s.size : Int) < 1 := by omega
    clear h0
    go_enter Tryz.func52, Tryz.ntmps52
    go_wp2_with fail
    go_ret
    exact ⟨rfl, Below.refl _ _⟩
  have q0 : ¬ (s.size : Int) < 1 := by omega
  by_cases h1 : 16 < s.size
  · rw [tr_no (fun h => by have := h.2.1; omega)]
    have q1 : (16 : Int) < (s.size : Int) := by omega
    clear h0 h1
    go_enter Tryz.func52, Tryz.ntmps52
    go_wp2_with fail
    go_ret
    exact ⟨rfl, Below.refl _ _⟩
  have q1 : ¬ (16 : Int) < (s.size : Int) := by omega
  have Hs := Lib.hid (show 1 ≤ s.size ∧ s.size ≤ 16 by omega)
  obtain ⟨r, hr⟩ : ∃ r, r = tr (nameOk s) := ⟨_, rfl⟩
  rw [← hr]
  have Hr := Lib.hid hr
  clear hr h0 h1
  go_enter Tryz.func52, Tryz.ntmps52
  go_wp2
  go_loopw [3, 4] (fun i _ wr => ∃ k : Nat, i = .int .i64 k ∧ k ≤ s.size ∧ Hid (∀ j, j < k → sgn ((byts s).getD j 0)) ∧ Below w.heap.size w wr) (fun i _ _ => s.size - (intOf i).toNat)
  case atStart => exact ⟨0, rfl, Nat.zero_le _, Lib.hid (fun j hj => by omega), Below.refl _ _⟩
  case round =>
    obtain ⟨k, rfl, hk, hf, hB⟩ := hrel
    by_cases hlt : k < s.size
    · have hI1 : (k : Int) < (s.size : Int) := by omega
      have Hx := Lib.hid (byts_at hlt)
      go_wp2_with fail
      all_goals first
        | (go_ret
           refine ⟨?_, hB⟩
           rw [Hr.out, tr_no (fun h => by
             have := sgn_at hlt h.2.2
             rw [Hx.out] at this
             unfold sgn at this
             simp_all <;> omega)]
           rfl)
        | (go_roundw
           case rel =>
             refine ⟨k + 1, by go_num, by omega, Lib.hid fun j hj => ?_, hB⟩
             by_cases hjk : j = k
             · rw [hjk, Hx.out]; unfold sgn; simp_all <;> omega
             · exact hf.out j (by omega)
           case measure => simp [intOf]; omega)
    · have hkI : ¬ (k : Int) < s.size := by omega
      have e : r = true := by
        rw [Hr.out]
        exact tr_yes (nameOk_of Hs.out.1 Hs.out.2 fun j hj => hf.out j (by omega))
      have He := Lib.hid e
      clear e hf
      go_wp2_with fail
      go_ret
      exact ⟨by rw [He.out]; rfl, hB⟩
end Sx
end Go.Proofs.YtaoeipehpakngaaGreatDoor
