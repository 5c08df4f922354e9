/- What the reference functions of layer 1 do: digits, PutLen. What the reference functions of layer 1 do: Put (digits, PutLen: NumRefV). What the reference of layer 6 does: Put. What the reference of layer 10 does: Put. -/
import Derived.Deep.QuietTactic
import Derived.BigQuiet
import Derived.Laws.IdiomStrings
import Derived.Deep.RegionLaw
import Derived.Deep.DeepCutAuto
import Derived.Test.YtnhgijlhnamolaaGreatDoorPk31
import Derived.Test.YtnhgijlhnamolaaGreatDoorPk25
import Derived.Test.YtnhgijlhnamolaaGreatDoorPk09
import Derived.Test.YtnhgijlhnamolaaGreatDoorPk30
namespace Go.Proofs.YtnhgijlhnamolaaGreatDoor
set_option maxRecDepth 20000
open Go.RowKit
namespace Nc

set_option maxHeartbeats 400000 in
theorem digits_own (f : Nat) : ∀ (half odd : Int) (w : World), f ≤ 9 → 0 ≤ half → half ≤ 9223372036854775807 → 0 ≤ odd → odd ≤ 1 → 2 * half + odd < 128 ^ (f + 1) →
    Calls Tryz.prog 52 #[.int .i64 half, .int .i64 odd] w fun e w' => ∃ v, e = .returned v ∧ w'.ownsRow w.heap.size 5 1 v (Nm.vdF f (2 * half + odd)).length ((Nm.vdF f (2 * half + odd)).map (Value.int .u8)) ∧ Below w.heap.size w w' := by
  obtain ⟨i0, hi, hz0, hz1, hz2⟩ := info_parts info_u8
  induction f with
  | zero =>
    intro half odd w hf9 h0 h1 o0 o1 hf
    have hf' : half ≤ 63 := by simp at hf; omega
    clear hf
    go_enter Tryz.func52, Tryz.ntmps52
    go_wp2_with fail
    go_ret
    refine ⟨_, rfl, ?_, (Below.refl _ _).alloc (Nat.le_refl _) _⟩
    exact World.ownsRow_lit w _ 1 (Nat.le_refl _) (by simp [maxLen]) rfl
  | succ f ih =>
    intro half odd w hf9 h0 h1 o0 o1 hf
    by_cases hh : half < 64
    · rw [Nm.vdF_lo _ _ (by omega)]
      clear hf
      go_enter Tryz.func52, Tryz.ntmps52
      go_wp2_with fail
      go_ret
      refine ⟨_, rfl, ?_, (Below.refl _ _).alloc (Nat.le_refl _) _⟩
      exact World.ownsRow_lit w _ 1 (Nat.le_refl _) (by simp [maxLen]) rfl
    · have hc := ih (half / 64 / 2) (half / 64 % 2) w (by omega) (by omega) (by omega) (by omega) (by omega) (by rw [Int.pow_succ] at hf; omega)
      have e1 : 2 * (half / 64 / 2) + half / 64 % 2 = (2 * half + odd) / 128 := by omega
      have hf' := (Nm.vdF_len f ((2 * half + odd) / 128)).2
      rw [e1] at hc
      have hv := Nm.vdF_hi f (2 * half + odd) (by omega)
      have e2 : (2 * half + odd) % 128 + 128 = 2 * (half % 64) + odd + 128 := by omega
      rw [e2] at hv
      rw [hv]
      generalize Nm.vdF f ((2 * half + odd) / 128) = ds at *
      have Hc := Lib.hid hc
      clear hv e1 e2 hc ih hf
      go_enter Tryz.func52, Tryz.ntmps52
      go_wp2_with fail
      refine Hc.out.mono ?_
      rintro e w1 ⟨v1, rfl, hO1, hB⟩
      obtain ⟨A, n, c, rfl, hS⟩ := Wd.Sl.of_own hO1
      have hn := hS.len
      clear hO1
      have Hn := Lib.hid hn
      clear hn
      go_wp2_with (at_builtin; refine Wd.wpList_app _ rfl (.tmp 28) (.tmp 29) 23 rfl w1.heap.size 5 i0 _ .u8 1 Tryz.underlying23 hi hz0 hz1 hz2 rfl (.slice (some ⟨w1.heap.size, 0, none⟩) 1 1) [2 * (half % 64) + odd + 128] rfl (World.ownsRow_lit w1 _ 1 (Nat.le_refl _) (by simp [maxLen]) rfl) w1.heap.size A n c ds rfl Hn.out hS.nil (hS.rd.below ((Below.refl _ _).alloc (Nat.le_refl _) _)) (by simp; omega) (by simp [maxLen]; omega) (by simp) ?_; intro v' w2 hown hbel)
      go_ret
      refine ⟨_, rfl, Wd.own_down hown hB.size, ?_⟩
      exact hB.trans ((((Below.refl _ _).alloc (Nat.le_refl _) _).grown hbel (by simp) (by simp [Value.ownBlock])).mono hB.size)

theorem digits_any (f : Nat) (half odd : Int) (w : World) (hf : f ≤ 9) (h0 : 0 ≤ half) (h1 : half ≤ 9223372036854775807) (o0 : 0 ≤ odd) (o1 : odd ≤ 1) (hb : 2 * half + odd < 128 ^ (f + 1)) :
    Calls Tryz.prog 52 #[.int .i64 half, .int .i64 odd] w (Wd.Out w .u8 (Nm.vdF f (2 * half + odd))) :=
  (digits_own f half odd w hf h0 h1 o0 o1 hb).mono fun _ _ ⟨_, he, ho, hb⟩ => he ▸ Wd.Out.of_own ho hb

/-- PutLen of the reference, with whose memory it is. -/
theorem refPutLen_own (n : Int) (w : World) (h0 : 0 ≤ n) (h1 : n ≤ 9223372036854775807) :
    Calls Tryz.prog 31 #[.int .i64 n] w fun e w' => ∃ v, e = .returned v ∧ w'.ownsRow w.heap.size 5 1 v (Nm.vd n).length ((Nm.vd n).map (Value.int .u8)) ∧ Below w.heap.size w w' := by
  have hc := digits_own 9 (n / 2) (n % 2) w (by omega) (by omega) (by omega) (by omega) (by omega) (by rw [Nm.pow10]; omega)
  have e : 2 * (n / 2) + n % 2 = n := by omega
  rw [e] at hc
  have Hc := Lib.hid hc
  clear hc e
  go_enter Tryz.func31, Tryz.ntmps31
  go_wp2_with fail
  refine Hc.out.mono ?_
  rintro e w1 ⟨v, rfl, hO⟩
  go_wp2_with fail
  go_ret
  exact ⟨v, rfl, hO⟩

theorem refPutLen_any (n : Int) (w : World) (h0 : -9223372036854775808 ≤ n) (h1 : n ≤ 9223372036854775807) :
    Calls Tryz.prog 31 #[.int .i64 n] w (Wd.Out w .u8 (if n < 0 then [] else Nm.vd n)) := by
  by_cases hn : n < 0
  · rw [if_pos hn]
    go_enter Tryz.func31, Tryz.ntmps31
    go_wp2_with fail
    go_ret
    exact ⟨none, 0, 0, rfl, Wd.Sl.none_ _ _, Below.refl _ _⟩
  · rw [if_neg hn]
    have hc := digits_any 9 (n / 2) (n % 2) w (by omega) (by omega) (by omega) (by omega) (by omega) (by rw [Nm.pow10]; omega)
    have e : 2 * (n / 2) + n % 2 = n := by omega
    rw [e] at hc
    have Hc := Lib.hid hc
    have hn' : 0 ≤ n := by omega
    clear hc e hn
    go_enter Tryz.func31, Tryz.ntmps31
    go_wp2_with fail
    refine Hc.out.mono ?_
    rintro e w1 ⟨A, n, c, rfl, hS⟩
    go_wp2_with fail
    go_ret
    exact ⟨A, n, c, rfl, hS⟩

end Nc
end Go.Proofs.YtnhgijlhnamolaaGreatDoor
namespace Go.Proofs.YtnhgijlhnamolaaGreatDoor
set_option maxRecDepth 20000
open Go.RowKit
namespace Nc

/-- Put of the reference, with whose memory it is. -/
theorem refPut_own (n : Int) (w : World) (h0 : -9223372036854775808 ≤ n) (h1 : n ≤ 9223372036854775807) :
    Calls Tryz.prog 53 #[.int .i64 n] w fun e w' => ∃ v, e = .returned v ∧ w'.ownsRow w.heap.size 5 1 v (Nm.vd (Nm.zz n)).length ((Nm.vd (Nm.zz n)).map (Value.int .u8)) ∧ Below w.heap.size w w' := by
  by_cases hn : n < 0
  · have hc := digits_own 9 (-(n + 1)) 1 w (by omega) (by omega) (by omega) (by omega) (by omega) (by rw [Nm.pow10]; omega)
    have e : 2 * -(n + 1) + 1 = Nm.zz n := by unfold Nm.zz; rw [if_pos hn]; omega
    rw [e] at hc
    have Hc := Lib.hid hc
    clear hc e
    go_enter Tryz.func53, Tryz.ntmps53
    go_wp2_with fail
    refine Hc.out.mono ?_
    rintro e w1 ⟨v, rfl, hO⟩
    go_wp2_with fail
    go_ret
    exact ⟨v, rfl, hO⟩
  · have hc := digits_own 9 n 0 w (by omega) (by omega) (by omega) (by omega) (by omega) (by rw [Nm.pow10]; omega)
    have e : 2 * n + 0 = Nm.zz n := by unfold Nm.zz; rw [if_neg hn]; omega
    rw [e] at hc
    have Hc := Lib.hid hc
    clear hc e
    go_enter Tryz.func53, Tryz.ntmps53
    go_wp2_with fail
    refine Hc.out.mono ?_
    rintro e w1 ⟨v, rfl, hO⟩
    go_wp2_with fail
    go_ret
    exact ⟨v, rfl, hO⟩
theorem refPut_any (n : Int) (w : World) (h0 : -9223372036854775808 ≤ n) (h1 : n ≤ 9223372036854775807) :
    Calls Tryz.prog 53 #[.int .i64 n] w (Wd.Out w .u8 (Nm.vd (Nm.zz n))) :=
  (refPut_own n w h0 h1).mono fun _ _ ⟨_, he, ho, hb⟩ => he ▸ Wd.Out.of_own ho hb

end Nc
end Go.Proofs.YtnhgijlhnamolaaGreatDoor
namespace Go.Proofs.YtnhgijlhnamolaaGreatDoor
set_option maxRecDepth 20000
open Go.RowKit
namespace Vc
open Va Nc
/-- What []byte(s) leaves. -/
def bcap (w : World) (s : ByteArray) : Nat := grownCap w s.size 0 5
def bobj (w : World) (s : ByteArray) : Obj := .cells (bytesRow s (bcap w s)) 5 ((bytesRow s (bcap w s)).size, (bytesRow s (bcap w s)).size + 1)
theorem run_bytes (w : World) (s : ByteArray) : (convert 9 23 (.string s)).run Tryz.prog w = .ok (.slice (some ⟨w.heap.size, 0, none⟩) s.size (bcap w s)) (w.drew.alloc (bobj w s)) :=
  run_bytes_of_string w 9 23 5 s Tryz.underlying9 Tryz.underlying23 Tryz.underlying5
theorem bytes_sl (w : World) (s : ByteArray) (hs : s.size ≤ 1000000) : Wd.Sl (w.drew.alloc (bobj w s)) .u8 (some ⟨w.heap.size, 0, none⟩) s.size (bcap w s) (byts s) := by
  refine ⟨(byts_len s).symm, grownCap_ge w s.size 0 _, grownCap_le_maxLen w s.size 0 _ (by unfold maxLen; omega), by simp, ?_⟩
  refine (Wd.Rd.mk (b := w.heap.size) (o := 0) (by simp) fun j hj => ?_)
  rw [byts_len] at hj
  have e := heap_alloc_new w.drew (bobj w s)
  have h := cell_of_row (w.drew.alloc (bobj w s)) w.heap.size j (bytesRow s (bcap w s)) 5 _ e
  rw [Nat.zero_add, h, bytesRow_at s _ j (by simpa using hj)]
  unfold byts
  have hj' : j < s.data.size := hj
  simp [List.getD, List.getElem?_map]
  rw [Array.getElem?_eq_getElem hj']
  rfl
/-- What the reference's Put answers. -/
def putR (k i : Int) (s : ByteArray) (b : Bool) : List Int := if mayB k i s b then Va.put ⟨k, i, s, b⟩ else []

/-- A slice of numbers in memory that is new since w, and an error's number. -/
def Out2N (w : World) (ys : List Int) (er : Int) (e : Ending) (w' : World) : Prop :=
  ∃ A n c, e = .returned (.tuple #[.slice A n c, .int .i64 er]) ∧ Wd.Sl w' .u8 A n c ys ∧ Below w.heap.size w w' ∧ ∀ a, A = some a → w.heap.size ≤ a.block
theorem own_new {w : World} {B B' : Nat} {e : TypeId} {size n m c : Nat} {A : Option Addr} {xs : List Value} (h : w.ownsRow B e size (.slice A m c) n xs) (hB : B' ≤ B) : ∀ a, A = some a → B' ≤ a.block := by
  rcases h.2 with ⟨h0, _⟩ | ⟨g, cap, cur, h1, h2, _⟩
  · intro a ha
    simp only [Value.slice.injEq] at h0
    rw [h0.1] at ha
    cases ha
  · intro a ha
    simp only [Value.slice.injEq] at h1
    rw [h1.1] at ha
    cases ha
    exact Nat.le_trans hB h2
set_option maxHeartbeats 2000000 in
theorem refPutV_new (k i : Int) (s : ByteArray) (b : Bool) (w : World) (h0 : -9223372036854775808 ≤ i) (h1 : i ≤ 9223372036854775807) :
    Calls Tryz.prog 32 #[.agg #[.int .i64 k, .int .i64 i, .string s, .bool b]] w (Out2N w (putR k i s b) (putE k i s b)) := by
  obtain ⟨i0, hi, hz0, hz1, hz2⟩ := info_parts info_u8
  have hb0 := (Below.refl w.heap.size w).alloc (Nat.le_refl _) (.cells #[.int .i64 k, .int .i64 i, .string s, .bool b] 34)
  have v0 : Vb (w.alloc (.cells #[.int .i64 k, .int .i64 i, .string s, .bool b] 34)) w.heap.size k i s b := Wd.Bx.new w _ _
  have Cm := Lib.hid fun w => refMay_any k i s b w
  cases hmay : mayB k i s b
  case false =>
    unfold putR putE
    rw [hmay] at Cm ⊢
    clear hmay
    go_enter Tryz.func32, Tryz.ntmps32
    go_wp2_with fail
    refine (Cm.out _).mono ?_
    rintro e w2 ⟨rfl, hB2⟩
    go_wp2_with fail
    go_ret2
    exact ⟨none, 0, 0, rfl, Wd.Sl.none_ _ _, hb0.trans (hB2.mono hb0.size), fun a ha => by cases ha⟩
  case true =>
    have hM := (mayB_iff k i s b).1 hmay
    rw [hmay] at Cm
    have he : putE k i s b = 0 := by unfold putE; rw [hmay]; rfl
    have hl : putR k i s b = Va.put ⟨k, i, s, b⟩ := by unfold putR; rw [hmay]; rfl
    rw [he, hl]
    clear he hl hmay
    unfold May at hM
    simp only [] at hM
    rcases hM with ⟨rfl, rfl, rfl, rfl⟩ | ⟨rfl, rfl, rfl⟩ | ⟨rfl, rfl, hs, rfl⟩ | ⟨rfl, rfl, rfl⟩
    · rw [show Va.put ⟨0, 0, ⟨#[]⟩, false⟩ = [] from rfl]
      go_enter Tryz.func32, Tryz.ntmps32
      go_wp2_with fail
      refine (Cm.out _).mono ?_
      rintro e w2 ⟨rfl, hB2⟩
      have hb2 := hb0.trans (hB2.mono hb0.size)
      obtain ⟨⟨u0, u1, u2, u3⟩, -⟩ := four (v0.below (Wd.Bx.lt v0) hB2)
      go_wp2_with fail
      go_ret2
      exact ⟨none, 0, 0, rfl, Wd.Sl.none_ _ _, hb2, fun a ha => by cases ha⟩
    · rw [show Va.put ⟨1, i, ⟨#[]⟩, false⟩ = Nm.vd (Nm.zz i) from rfl]
      go_enter Tryz.func32, Tryz.ntmps32
      go_wp2_with fail
      refine (Cm.out _).mono ?_
      rintro e w2 ⟨rfl, hB2⟩
      have hb2 := hb0.trans (hB2.mono hb0.size)
      obtain ⟨⟨u0, u1, u2, u3⟩, -⟩ := four (v0.below (Wd.Bx.lt v0) hB2)
      go_wp2_with fail
      refine (Nc.refPut_own i w2 h0 h1).mono ?_
      rintro e w3 ⟨v3, rfl, hO3, hB3⟩
      obtain ⟨A3, n3, c3, rfl, hS3⟩ := Wd.Sl.of_own hO3
      have hnew := Lib.hid (own_new hO3 hb2.size)
      clear hO3
      go_wp2_with fail
      go_ret2
      exact ⟨A3, n3, c3, rfl, hS3, hb2.trans (hB3.mono hb2.size), hnew.out⟩
    · rw [show Va.put ⟨2, 0, s, false⟩ = Nm.vd (s.size : Int) ++ byts s from rfl]
      have hvl := Nm.vd_len (s.size : Int)
      have Hp := Lib.hid fun w' => refPutLen_own (s.size : Int) w' (by omega) (by omega)
      have hcv := fun w => run_bytes w s
      have Hsl := Lib.hid fun w => bytes_sl w s (by omega)
      have Hbl := Lib.hid (byts_len s)
      obtain ⟨vs, hvs⟩ : ∃ vs, vs = Nm.vd (s.size : Int) := ⟨_, rfl⟩
      rw [← hvs] at Hp hvl ⊢
      clear hvs
      go_enter Tryz.func32, Tryz.ntmps32
      go_wp2_with fail
      refine (Cm.out _).mono ?_
      rintro e w2 ⟨rfl, hB2⟩
      have hb2 := hb0.trans (hB2.mono hb0.size)
      have v2 := v0.below (Wd.Bx.lt v0) hB2
      have hl2 := Wd.Bx.lt v2
      obtain ⟨⟨u0, u1, u2, u3⟩, -⟩ := four v2
      have Hv2 := Lib.hid v2
      have Hb2 := Lib.hid hb2
      clear v0 v2 hb0 hB2 Cm hb2
      go_upto_region 8 with fail
      have hA2 : Below w2.heap.size w2 (w2.drew.alloc (bobj w2 s)) := ((Below.refl w2.heap.size w2).drew).alloc (Nat.le_refl _) _
      have cA2 := (hA2.cell (p := ⟨w.heap.size, 2, none⟩) hl2).trans u2
      have hA2' : Below w2.heap.size w2 (w2.drew.drew.alloc (bobj w2.drew s)) := ((Below.refl w2.heap.size w2).drew.drew).alloc (Nat.le_refl _) _
      go_region_law (first | (go_simp; go_at_call 31; (with_reducible refine (Hp.out w2.drew).mono ?_); rintro e w3 ⟨v3, rfl, hO3, hB3⟩; have hb3 : Below w2.heap.size w2 w3 := Wd.of_drew hB3; have hsz3 := hb3.size; have c3 := (hb3.cell (p := ⟨w.heap.size, 2, none⟩) hl2).trans u2; have hA3 : Below w2.heap.size w2 (w3.drew.alloc (bobj w3 s)) := (hb3.drew).alloc hsz3 _; have cA3 := (hA3.cell (p := ⟨w.heap.size, 2, none⟩) hl2).trans u2; have hO3' := Wd.own_below hO3 (((Below.refl w3.heap.size w3).drew).alloc (Nat.le_refl _) (bobj w3 s)); have hL3 := Hsl.out w3; have hz3 : w2.heap.size ≤ (w3.drew.alloc (bobj w3 s)).heap.size := hA3.size) | (refine Wd.step_app _ rfl (.tmp 21) (.tmp 24) 23 rfl w2.heap.size 5 i0 _ .u8 1 Tryz.underlying23 hi hz0 hz1 hz2 rfl v3 vs rfl hO3' _ (some ⟨w3.heap.size, 0, none⟩) s.size (bcap w3 s) (byts s) rfl (Hbl.out.symm) (by simp) hL3.rd (by rw [Hbl.out]; omega) (by rw [Hbl.out]; unfold maxLen; omega) hz3 ?_; intro v4 w4 hO4 hg4; have hb4 : Below w2.heap.size w2 w4 := hA3.grown hg4 hz3 fun g hg => (hO3'.lt g hg).1; have c4 := (hb4.cell (p := ⟨w.heap.size, 2, none⟩) hl2).trans u2) | (go_simp; go_at_call 31; (with_reducible refine (Hp.out _).mono ?_); rintro e w5 ⟨v5, rfl, hO5, hB5⟩; have hb52 : Below (w2.drew.drew.alloc (bobj w2.drew s)).heap.size (w2.drew.drew.alloc (bobj w2.drew s)) w5 := hB5; have hb5 : Below w2.heap.size w2 w5 := hA2'.trans (hb52.mono hA2'.size); have hsz5 := hb5.size; have hO5' := Wd.own_down hO5 hA2'.size; have c3 := (hb5.cell (p := ⟨w.heap.size, 2, none⟩) hl2).trans u2; have hL5 := (Hsl.out w2.drew).below hb52) | (refine Wd.step_app _ rfl (.tmp 21) (.tmp 24) 23 rfl w2.heap.size 5 i0 _ .u8 1 Tryz.underlying23 hi hz0 hz1 hz2 rfl v5 vs rfl hO5' _ (some ⟨w2.heap.size, 0, none⟩) s.size (bcap w2.drew s) (byts s) rfl (Hbl.out.symm) (by simp) hL5.rd (by rw [Hbl.out]; omega) (by rw [Hbl.out]; unfold maxLen; omega) hsz5 ?_; intro v4 w4 hO4 hg4; have hb4 : Below w2.heap.size w2 w4 := hb5.grown hg4 hsz5 fun g hg => (hO5'.lt g hg).1; have c4 := (hb4.cell (p := ⟨w.heap.size, 2, none⟩) hl2).trans u2))
      all_goals
        go_wp2_with fail
        go_ret2
        have hO4' := hO4
        obtain ⟨A4, n4, k4, rfl, hS4⟩ := Wd.Sl.of_own hO4
        have hnew := Lib.hid (own_new hO4' Hb2.out.size)
        exact ⟨A4, n4, k4, rfl, hS4, Hb2.out.trans (hb4.mono Hb2.out.size), hnew.out⟩
    · cases b
      all_goals
        first | rw [show Va.put ⟨3, 0, ⟨#[]⟩, true⟩ = [1] from rfl] | rw [show Va.put ⟨3, 0, ⟨#[]⟩, false⟩ = [0] from rfl]
        go_enter Tryz.func32, Tryz.ntmps32
        go_wp2_with fail
        refine (Cm.out _).mono ?_
        rintro e w2 ⟨rfl, hB2⟩
        have hb2 := hb0.trans (hB2.mono hb0.size)
        obtain ⟨⟨u0, u1, u2, u3⟩, -⟩ := four (v0.below (Wd.Bx.lt v0) hB2)
        go_wp2_with fail
        go_ret2
        exact ⟨_, _, _, rfl, Wd.Sl.lit w2 .u8 _ _ _ 1 rfl rfl (by decide), hb2.alloc hb2.size _, fun a ha => by cases ha; exact hb2.size⟩
theorem refPutV_any (k i : Int) (s : ByteArray) (b : Bool) (w : World) (h0 : -9223372036854775808 ≤ i) (h1 : i ≤ 9223372036854775807) :
    Calls Tryz.prog 32 #[.agg #[.int .i64 k, .int .i64 i, .string s, .bool b]] w (Wd.Out2 w .u8 (putR k i s b) (putE k i s b)) :=
  (refPutV_new k i s b w h0 h1).mono fun _ _ ⟨A, n, c, he, hS, hb, _⟩ => ⟨A, n, c, he, hS, hb⟩
end Vc
end Go.Proofs.YtnhgijlhnamolaaGreatDoor
namespace Go.Proofs.YtnhgijlhnamolaaGreatDoor
set_option maxRecDepth 20000
open Go.RowKit
namespace Cx
open Va (Vl May ord null)
open Sc (tr tr_yes tr_no tr_iff)
open Co
theorem info_y : (Tryz.prog.info? 5).map (fun i => (i.zero, i.size, i.bytes)) = some (some (.int .u8 0), 1, 1) := by kernel_rfl
theorem putD_next (D : List Vl) (k : Nat) (h : k < D.length) : putD (D.take (k + 1)) = putD (D.take k) ++ ((D.getD k default).kind :: Va.put (D.getD k default)) := by
  unfold putD
  rw [List.take_succ_eq_append_getElem h, List.flatMap_append]
  simp [List.getD, h]
theorem putD_len {D : List Vl} (h : ∀ v ∈ D, May v) : (putD D).length ≤ 75 * D.length := by
  induction D with
  | nil => simp [putD]
  | cons a D ih =>
    have h1 := Va.put_len (h a (by simp))
    have h2 := ih fun v hv => h v (by simp [hv])
    unfold putD at *
    simp only [List.flatMap_cons, List.length_append, List.length_cons]
    omega
theorem may_kind {v : Vl} (h : May v) : 0 ≤ v.kind ∧ v.kind ≤ 3 := by
  unfold May at h
  omega
theorem sl_grown {w w' : World} {k : IntKind} {A : Option Addr} {n c : Nat} {ys : List Int} {row : Option Nat} (h : Wd.Sl w k A n c ys) (hg : w.grownBy w' row) (hne : ∀ a, A = some a → some a.block ≠ row) : Wd.Sl w' k A n c ys :=
  ⟨h.len, h.cap, h.max, h.nil, fun j hj => by
    obtain ⟨b, o, e, hlt, hc⟩ := h.rd j hj
    exact ⟨b, o, e, Nat.lt_of_lt_of_le hlt hg.size, (World.cell?_of_block (hg.block b hlt (hne _ e))).trans hc⟩⟩
set_option maxHeartbeats 8000000 in
theorem refPut_any (A : Option Addr) (n c : Nat) (B : Option Addr) (m d : Nat) (C : Col) (w : World) (h : Cl w A n c B m d C) (hn : n ≤ 100000) (hm : m ≤ 1000000) :
    Calls Tryz.prog 16 #[.agg #[.int .i64 C.n, .slice A n c, .slice B m d]] w (Wd.Out2 w .u8 (put C).1 (put C).2) := by
  obtain ⟨i0, hi, hz0, hz1, hz2⟩ := info_parts info_y
  have hb0 := (Below.refl w.heap.size w).alloc (Nat.le_refl _) (.cells #[.int .i64 C.n, .slice A n c, .slice B m d] 25)
  have x0 := Cb.new w C.n A n c B m d
  have C1 := Lib.hid (refIds_any A n c B m d C _ (h.below hb0) hn hm)
  have Hb0 := Lib.hid hb0
  have HD := Lib.hid h.dict
  have HI := Lib.hid h.ids
  have Hn := Lib.hid h.dict.len
  have Hm := Lib.hid h.ids.len
  have hcap := h.dict.cap
  have hmx := h.dict.max
  have hcap2 := h.ids.cap
  have hmx2 := h.ids.max
  unfold maxLen at hmx hmx2
  have n1 := h.n1
  have HN := Lib.hid (rfl : C.n = C.n)
  have bx := x0.bx
  by_cases hv : Valid C
  case neg =>
    rw [put_no hv]
    have et := tr_no hv
    rw [et] at C1
    clear h hb0 hv et
    have c0 := x0.c0
    have c1 := x0.c1
    have c2 := x0.c2
    obtain ⟨N, hN⟩ : ∃ N, N = C.n := ⟨_, rfl⟩
    rw [← hN] at C1 Hb0 c0 c1 c2 ⊢
    clear hN x0 bx HN n1
    go_enter Tryz.func16, Tryz.ntmps16
    go_wp2_with fail
    refine C1.out.mono ?_
    rintro e w1 ⟨P, p, q, rfl, hSl, hB1⟩
    have Hb1 := Lib.hid (Hb0.out.trans (hB1.mono (by simp)))
    clear hB1 c0 c1 c2 hSl
    go_wp2_with fail
    go_ret2
    exact ⟨_, _, _, rfl, Wd.Sl.none_ _ _, Hb1.out⟩
  rw [put_yes hv]
  have et := tr_yes hv
  rw [et] at C1
  have n0 := hv.n0
  have HM := Lib.hid hv.ris.1
  obtain ⟨N, hN⟩ : ∃ N, N = C.n := ⟨_, rfl⟩
  have P1 := Lib.hid fun w => Nc.refPutLen_own N w (by rw [hN]; exact n0) (by rw [hN]; exact n1)
  have P2 := Lib.hid fun w => Nc.refPutLen_own (n : Int) w (by omega) (by omega)
  have l1 := (Nm.vd_len N).2
  have l2 := (Nm.vd_len (n : Int)).2
  obtain ⟨T, hT⟩ : ∃ T : Nat → List Int, T = fun k => (Nm.vd N ++ Nm.vd (n : Int)) ++ putD (C.dict.take k) := ⟨_, rfl⟩
  have HT0 := Lib.hid (show T 0 = Nm.vd N ++ Nm.vd (n : Int) by rw [hT]; simp [putD])
  have HT1 := Lib.hid (show ∀ k, k < C.dict.length → T (k + 1) = (T k ++ [(C.dict.getD k default).kind]) ++ Va.put (C.dict.getD k default) from fun k hk => by
    rw [hT]
    show (Nm.vd N ++ Nm.vd (n : Int)) ++ putD (C.dict.take (k + 1)) = _
    rw [putD_next _ _ hk]
    simp)
  have HTn := Lib.hid (show T n ++ C.ids = puts C by
    rw [hT]
    show ((Nm.vd N ++ Nm.vd (n : Int)) ++ putD (C.dict.take n)) ++ C.ids = _
    rw [List.take_of_length_le (by rw [Hn.out]; exact Nat.le_refl _)]
    unfold puts
    rw [hN, Hn.out])
  have HTl := Lib.hid (show ∀ k, (T k).length ≤ 20 + 75 * k from fun k => by
    have h1 := putD_len (D := C.dict.take k) fun v hv' => HM.out v (List.mem_of_mem_take hv')
    have h2 : (C.dict.take k).length ≤ k := by simp; omega
    rw [hT]
    show (Nm.vd N ++ Nm.vd (n : Int) ++ putD (C.dict.take k)).length ≤ _
    simp only [List.length_append]
    omega)
  rw [← HTn.out]
  have hl1 := Lib.hid l1
  have hl2 := Lib.hid l2
  rw [← hN] at x0 C1 Hb0 ⊢
  have c0 := x0.c0
  have c1 := x0.c1
  have c2 := x0.c2
  clear h hb0 hv et hN bx HN n0 n1 hT l1 l2
  go_enter Tryz.func16, Tryz.ntmps16
  go_wp2_with fail
  refine C1.out.mono ?_
  rintro e w1 ⟨P, p, q, rfl, hSl, hB1⟩
  have y0 := x0.below (by simp) hB1
  have hlt1 := y0.lt
  have Hb1 := Lib.hid (Hb0.out.trans (hB1.mono (by simp)))
  clear hB1 c0 c1 c2 hSl x0 C1
  have c0 := y0.c0
  have c1 := y0.c1
  have c2 := y0.c2
  go_wp2_with fail
  have hb := (Below.refl w1.heap.size w1).drew
  have z10 : w1.drew.cell? ⟨w.heap.size, 0, none⟩ = some (.int .i64 N) ∧ w1.drew.cell? ⟨w.heap.size, 1, none⟩ = some (.slice A n c) := ⟨c0, c1⟩
  go_region_held3 (fun w' => w'.cell? ⟨w.heap.size, 0, none⟩ = some (.int .i64 N) ∧ w'.cell? ⟨w.heap.size, 1, none⟩ = some (.slice A n c)) (with_reducible first | exact z10) (first
    | (go_at_call 31; (with_reducible refine (P1.out _).mono ?_); rintro e w5 ⟨v5, rfl, hO5, hB5⟩; have hO5 := Wd.own_down hO5 hb.size; have hb := hb.trans (hB5.mono hb.size); have y9 := y0.below hlt1 hb; have z10 := And.intro y9.c0 y9.c1)
    | (go_at_call 31; (with_reducible refine (P2.out _).mono ?_); rintro e w6 ⟨v6, rfl, hO6, hB6⟩; have hO5 := Wd.own_below hO5 hB6; have hb := hb.trans (hB6.mono hb.size); obtain ⟨A6, n6, c6, rfl, hS6⟩ := Wd.Sl.of_own hO6; have y9 := y0.below hlt1 hb; have z10 := And.intro y9.c0 y9.c1)
    | (refine Wd.step_app _ rfl (.tmp 19) (.tmp 23) 23 rfl w1.heap.size 5 i0 _ .u8 1 Tryz.underlying23 hi hz0 hz1 hz2 rfl v5 (Nm.vd N) rfl hO5 _ A6 n6 c6 (Nm.vd (n : Int)) (by rfl) hS6.len hS6.nil hS6.rd (by have := hl1.out; have := hl2.out; omega) (by unfold maxLen; have := hl1.out; have := hl2.out; omega) hb.size ?_; intro v8 w8 hO8 hg8; have hb8 := hb.grown hg8 hb.size (fun g hg => (hO5.lt g hg).1); have y9 := y0.below hlt1 hb8; have z10 := And.intro y9.c0 y9.c1))
  have HB8 := Lib.hid hb8
  have hlt8 := y9.lt
  have y8 := y9
  have hs8 := hb8.size
  rw [← HT0.out] at hO8
  have HDw := Lib.hid (HD.out.below (Hb1.out.trans (hb8.mono Hb1.out.size)))
  have HIw := Lib.hid (HI.out.below (Hb1.out.trans (hb8.mono Hb1.out.size)))
  have HO8 := Lib.hid hO8
  clear z10 c0 c1 c2 hO5 hO6 hS6 hg8 hB5 hB6 hb hb8 y9 P1 P2 hO8
  go_wp2_with fail
  go_loopw [6, 7, 8, 9] (fun v j _ _ wr => ∃ k : Nat, j = .int .i64 k ∧ k ≤ n ∧ wr.ownsRow w1.heap.size 5 1 v (T k).length ((T k).map (Value.int .u8)) ∧ Below w1.heap.size w8 wr) (fun _ j _ _ _ => n - (intOf j).toNat)
  case atStart => exact ⟨0, rfl, Nat.zero_le _, HO8.out, Below.refl _ _⟩
  case round =>
    obtain ⟨k, rfl, hk, hO, hB⟩ := hrel
    have yr := y8.below hlt1 hB
    by_cases hkn : k < n
    · have hkI : (k : Int) < n := by omega
      have hk0 : (0 : Int) ≤ (k : Int) := by omega
      have hkD : k < C.dict.length := by rw [← Hn.out]; exact hkn
      have hHD := (HD.out.below (Hb1.out.trans ((HB8.out.trans hB).mono Hb1.out.size)))
      obtain ⟨e, f, hA, heB, d0, d1, d2, d3, hv1⟩ := hHD.cells (j := k) hkD rfl
      subst hA
      have hT := HT1.out k hkD
      have hmay := HM.out (C.dict.getD k default) (by rw [List.getD_eq_getElem?_getD, List.getElem?_eq_getElem hkD]; exact List.getElem_mem hkD)
      obtain ⟨y, hy⟩ : ∃ y, y = C.dict.getD k default := ⟨_, rfl⟩
      rw [← hy] at d0 d1 d2 d3 hv1 hT hmay
      obtain ⟨vk, vi, vs, vb⟩ := y
      have hkd := may_kind hmay
      simp only [] at hkd
      have hwk : IntKind.u8.wrap vk = vk := by
        have : vk = 0 ∨ vk = 1 ∨ vk = 2 ∨ vk = 3 := by omega
        rcases this with rfl | rfl | rfl | rfl <;> rfl
      have hmb := (Vc.mayB_iff vk vi vs vb).2 hmay
      have hput : Vc.putR vk vi vs vb = Va.put ⟨vk, vi, vs, vb⟩ := by unfold Vc.putR; rw [hmb]; rfl
      have hbd := bounds_i64 hv1.w1
      have Cp := Vc.refPutV_new vk vi vs vb wr hbd.1 hbd.2
      rw [hput] at Cp
      have hpl := Va.put_len hmay
      obtain ⟨ds, hds⟩ : ∃ ds, ds = Va.put ⟨vk, vi, vs, vb⟩ := ⟨_, rfl⟩
      rw [← hds] at Cp hT hpl
      obtain ⟨er, her⟩ : ∃ er, er = Vc.putE vk vi vs vb := ⟨_, rfl⟩
      rw [← her] at Cp
      have CP := Lib.hid Cp
      have HT := Lib.hid hT
      have c1 := yr.c1
      have htl := HTl.out k
      have hOlt := hO.lt
      have HO := Lib.hid hO
      have HBr := Lib.hid hB
      have hsr := hB.size
      have heW : e < wr.heap.size := heB
      clear hT hmay hy hv1 hmb hput hbd Cp hds her hO hB hHD hkD
      go_wp2_with fail
      refine CP.out.mono ?_
      rintro e3 w3 ⟨A3, n3, c3, rfl, hS3, hB3, hnew⟩
      have hO3 := Wd.own_below HO.out hB3
      have hb3 : Below w1.heap.size w8 w3 := HBr.out.trans (hB3.mono (Nat.le_trans hs8 hsr))
      have y3 := yr.below yr.lt hB3
      have c1' := y3.c1
      have d0' := (hB3.cell (p := ⟨e, f + k * 4, none⟩) heW).trans d0
      have hA4 : Below w1.heap.size w8 (w3.alloc (.cells #[.int .u8 vk] 5)) := hb3.alloc (Nat.le_trans hs8 hb3.size) _
      have hO4 := hO3.alloc (.cells #[.int .u8 vk] 5)
      have hR4 : Wd.Rd (w3.alloc (.cells #[.int .u8 vk] 5)) (w3.heap.size + 1) .u8 (some ⟨w3.heap.size, 0, none⟩) [vk] := Wd.Rd.lit w3 .u8 [vk] 5 #[.int .u8 vk] rfl
      have hz4 := Nat.le_trans hs8 hA4.size
      have hS4 := hS3.below ((Below.refl w3.heap.size w3).alloc (Nat.le_refl _) (.cells #[.int .u8 vk] 5))
      have hne : ∀ a, A3 = some a → some a.block ≠ Value.ownBlock u6 := fun a ha q => by
        have h1 := hnew a ha
        have h2 := hOlt a.block q.symm
        omega
      clear c1 d0 d1 d2 d3 hB3 hO3 hS3
      go_wp2_with (first
        | (at_builtin; refine Wd.wpList_app _ rfl (.tmp 41) (.tmp 49) 23 rfl w1.heap.size 5 i0 _ .u8 1 Tryz.underlying23 hi hz0 hz1 hz2 rfl u6 (T k) rfl hO4 _ (some ⟨w3.heap.size, 0, none⟩) 1 1 [vk] rfl rfl (by simp) hR4 (by simp; omega) (by unfold maxLen; simp; omega) hz4 ?_; intro v5 w5 hO5 hg5; have hb5 : Below w1.heap.size w8 w5 := hA4.grown hg5 hz4 fun g hg => (hO4.lt g hg).1; have hS5 := sl_grown hS4 hg5 hne; have hz5 := Nat.le_trans hs8 hb5.size)
        | (at_builtin; refine Wd.wpList_app _ rfl (.tmp 51) (.tmp 52) 23 rfl w1.heap.size 5 i0 _ .u8 1 Tryz.underlying23 hi hz0 hz1 hz2 rfl v5 (T k ++ [vk]) rfl hO5 _ A3 n3 c3 ds rfl hS5.len hS5.nil hS5.rd (by simp; omega) (by unfold maxLen; simp; omega) hz5 ?_; intro v6 w6 hO6 hg6; have hb6 : Below w1.heap.size w8 w6 := hb5.grown hg6 hz5 fun g hg => (hO5.lt g hg).1))
      go_roundw
      case rel => exact ⟨k + 1, by go_num, by omega, by rw [HT.out]; exact hO6, hb6⟩
      case measure => simp [intOf]; omega
    · have hkI : ¬ (k : Int) < n := by omega
      obtain rfl : k = n := by omega
      have hI := HI.out.below (Hb1.out.trans ((HB8.out.trans hB).mono Hb1.out.size))
      have htl := HTl.out k
      have Hil := Lib.hid hI.len
      have hic := hI.cap
      have hnl := hI.nil
      have hrd := hI.rd
      clear hI
      have hsr := hB.size
      have hbr := Hb1.out.trans ((HB8.out.trans hB).mono Hb1.out.size)
      have hs1 := Hb1.out.size
      have hsw : w1.heap.size ≤ wr.heap.size := Nat.le_trans hs8 hsr
      have c1 := yr.c1
      have c2 := yr.c2
      go_wp2_with (at_builtin; refine Wd.wpList_app _ rfl (.tmp 54) (.tmp 56) 23 rfl w1.heap.size 5 i0 _ .u8 1 Tryz.underlying23 hi hz0 hz1 hz2 rfl u6 (T k) rfl hO _ B m d C.ids rfl Hil.out hnl hrd (by have := Hil.out; omega) (by unfold maxLen; have := Hil.out; omega) hsw ?_; intro v6 w6 hO6 hg6; have hb6 : Below w.heap.size w w6 := hbr.grown hg6 hbr.size fun g hg => Nat.le_trans hs1 (hO.lt g hg).1)
      go_ret2
      obtain ⟨A7, n7, c7, rfl, hS7⟩ := Wd.Sl.of_own hO6
      exact ⟨A7, n7, c7, rfl, hS7, hb6⟩
end Cx
end Go.Proofs.YtnhgijlhnamolaaGreatDoor
