/- What place of package dict does: the binary search. What Sorted of package dict does. -/
import Derived.WalkKit
import Derived.WalkSpells
import Derived.Laws.EntriesVeiled
import Derived.Deep.RegionWith
import Derived.Deep.QuietTactic
import Derived.BigQuiet
import Derived.Test.YtnhgijlhnamolaaDoorPk11
import Derived.Test.YtnhgijlhnamolaaDoorPk12
import Derived.Test.YtnhgijlhnamolaaDoorPk09
import Derived.Test.YtnhgijlhnamolaaDoorPk21
import Derived.Test.YtnhgijlhnamolaaDoorPk23
namespace Go.Proofs.YtnhgijlhnamolaaDoor
set_option maxRecDepth 20000
open Go.RowKit
namespace Dt
open Va (Vl May ord null)
open Vc (order_any)
open Dc Dx
/-- Whether the value at the place is the one that is sought. -/
theorem place_hit {l : List Vl} {x : Vl} (hr : Ris l) (hx : May x) (hp : place l x < l.length) : ord (l.getD (place l x) default) x = 0 ↔ x ∈ l := by
  have hm := getD_mem hp
  rw [Va.ord_zero (hr.1 _ hm) hx, ris_mem hr.2 x, getD_at hp]
  exact ⟨fun e => by rw [e], fun e => Option.some.inj e⟩
theorem place_end {l : List Vl} {x : Vl} (hr : Ris l) (hp : ¬ place l x < l.length) : x ∉ l := by
  rw [ris_mem hr.2 x, List.getElem?_eq_none (by omega)]
  simp
theorem place_mid {l : List Vl} {x : Vl} (hr : Ris l) {j : Nat} (hj : j < l.length) : ord (l.getD j default) x < 0 ↔ j < place l x := up_split hr.2 x j _ (getD_at hj)
set_option maxHeartbeats 4000000 in
theorem place_any (R : Option Addr) (m c : Nat) (l : List Vl) (k i : Int) (s : ByteArray) (b : Bool) (w : World) (hV : Wd.Vs w R m c l) (hr : Ris l) (hx : May ⟨k, i, s, b⟩) :
    Calls Tryd.prog 75 #[.slice R m c, .agg #[.int .i64 k, .int .i64 i, .string s, .bool b], .func (.func 74) #[] #[]] w fun e w' => e = .returned (.tuple #[.int .i64 (place l ⟨k, i, s, b⟩ : Nat), .bool (decide (⟨k, i, s, b⟩ ∈ l))]) ∧ Below w.heap.size w w' := by
  have hb0 := (Below.refl w.heap.size w).alloc (Nat.le_refl _) (.cells #[.int .i64 k, .int .i64 i, .string s, .bool b] 48)
  have x0 : Vc.Vb (w.alloc (.cells #[.int .i64 k, .int .i64 i, .string s, .bool b] 48)) w.heap.size k i s b := Wd.Bx.new w _ _
  have Hm := Lib.hid hV.len
  have HV := Lib.hid (hV.below hb0)
  have hcap := hV.cap
  have hmx := hV.max
  unfold maxLen at hmx
  have Hmid := Lib.hid fun (j : Nat) (hj : j < m) => place_mid (x := ⟨k, i, s, b⟩) hr (j := j) (by rw [← Hm.out]; exact hj)
  have Hhit := Lib.hid fun (hp : place l ⟨k, i, s, b⟩ < m) => place_hit hr hx (by rw [← Hm.out]; exact hp)
  have Hend := Lib.hid fun (hp : ¬ place l ⟨k, i, s, b⟩ < m) => place_end (x := ⟨k, i, s, b⟩) hr (by rw [← Hm.out]; exact hp)
  have hpl : place l ⟨k, i, s, b⟩ ≤ m := by rw [Hm.out]; exact place_le _ _
  obtain ⟨B, hB⟩ : ∃ B, B = decide (⟨k, i, s, b⟩ ∈ l) := ⟨_, rfl⟩
  rw [← hB]
  have HB := Lib.hid hB
  generalize place l ⟨k, i, s, b⟩ = p at *
  have Hx0 := Lib.hid x0
  clear hV hr hx hB x0
  go_enter Tryd.func75, Tryd.ntmps75
  go_wp2_with fail
  generalize w.alloc (.cells #[.int .i64 k, .int .i64 i, .string s, .bool b] 48) = wa at *
  have hl0 := Wd.Bx.lt Hx0.out
  go_loopw [8, 9] (fun lo hi wr => ∃ a h : Nat, lo = .int .i64 a ∧ hi = .int .i64 h ∧ a ≤ p ∧ p ≤ h ∧ h ≤ m ∧ Below wa.heap.size wa wr) (fun lo hi _ => (intOf hi).toNat - (intOf lo).toNat)
  case atStart => exact ⟨0, m, rfl, rfl, Nat.zero_le _, hpl, Nat.le_refl _, Below.refl _ _⟩
  case round =>
    obtain ⟨a, h, rfl, rfl, ha, hh, hm, hB⟩ := hrel
    obtain ⟨⟨y0, y1, y2, y3⟩, -⟩ := Vc.four (Hx0.out.below hl0 hB)
    by_cases hlt : a < h
    · have hq : a + (h - a) / 2 < m := by omega
      obtain ⟨q, hqq⟩ : ∃ q, q = a + (h - a) / 2 := ⟨_, rfl⟩
      obtain ⟨e, f, hR, heB, d0, d1, d2, d3, _⟩ := (HV.out.below hB).cells (j := q) (by rw [← Hm.out]; omega) rfl
      subst hR
      have hqI : (a : Int) + ((h : Int) - (a : Int)) / 2 = (q : Int) := by omega
      have hqa : a ≤ q ∧ q < h := by omega
      have hmd := Hmid.out q (by omega)
      have hqm : (q : Int) < (m : Int) := by omega
      obtain ⟨v, hv⟩ : ∃ v, v = l.getD q default := ⟨_, rfl⟩
      rw [← hv] at d0 d1 d2 d3 hmd
      have Co := Lib.hid (order_any v.kind v.i v.s v.b k i s b wr.drew)
      obtain ⟨o, ho⟩ : ∃ o, o = ord v ⟨k, i, s, b⟩ := ⟨_, rfl⟩
      rw [show ord ⟨v.kind, v.i, v.s, v.b⟩ ⟨k, i, s, b⟩ = o from ho.symm] at Co
      rw [← ho] at hmd
      have hBd := hB.drew
      clear ho hv hqq
      go_wp2_with fail
      clear hqI
      by_cases hz : o < 0
      · have hqp := hmd.1 hz
        clear hmd
        go_region_with (go_at_call 74; (with_reducible refine Co.out.mono ?_); rintro q' w3 ⟨rfl, hB3⟩; have hb3 : Below wa.heap.size wa w3 := hBd.trans (hB3.mono hBd.size))
        all_goals (
          go_wp2_with fail
          go_roundw
          case rel => exact ⟨q + 1, h, by go_num, rfl, by omega, hh, hm, hb3⟩
          case measure => simp [intOf]; omega)
      · have hqp : p ≤ q := by have := mt hmd.2 hz; omega
        clear hmd
        go_region_with (go_at_call 74; (with_reducible refine Co.out.mono ?_); rintro q' w3 ⟨rfl, hB3⟩; have hb3 : Below wa.heap.size wa w3 := hBd.trans (hB3.mono hBd.size))
        all_goals (
          go_wp2_with fail
          go_roundw
          case rel => exact ⟨a, q, rfl, by go_num, ha, hqp, by omega, hb3⟩
          case measure => simp [intOf]; omega)
    · obtain rfl : a = p := by omega
      obtain rfl : h = a := by omega
      clear ha hh
      by_cases hp : h < m
      · obtain ⟨e, f, hR, heB, d0, d1, d2, d3, _⟩ := HV.out.cells (j := h) (by rw [← Hm.out]; exact hp) rfl
        subst hR
        have hht := Hhit.out hp
        have hpm : (h : Int) < (m : Int) := by omega
        obtain ⟨v, hv⟩ : ∃ v, v = l.getD h default := ⟨_, rfl⟩
        rw [← hv] at d0 d1 d2 d3 hht
        have Co := Lib.hid (order_any v.kind v.i v.s v.b k i s b wr.drew)
        obtain ⟨o, ho⟩ : ∃ o, o = ord v ⟨k, i, s, b⟩ := ⟨_, rfl⟩
        rw [show ord ⟨v.kind, v.i, v.s, v.b⟩ ⟨k, i, s, b⟩ = o from ho.symm] at Co
        rw [← ho] at hht
        have hBd := hB.drew
        have Y := Lib.hid fun w' (hb : Below wa.heap.size wa w') => (⟨(Vc.four (Hx0.out.below hl0 hb)).1.1, (Vc.four (Hx0.out.below hl0 hb)).1.2.1, (Vc.four (Hx0.out.below hl0 hb)).1.2.2.1, (Vc.four (Hx0.out.below hl0 hb)).1.2.2.2, (hb.cell (p := ⟨e, f + h * 4, none⟩) heB).trans d0, (hb.cell (p := ⟨e, f + h * 4 + 1, none⟩) heB).trans d1, (hb.cell (p := ⟨e, f + h * 4 + 2, none⟩) heB).trans d2, (hb.cell (p := ⟨e, f + h * 4 + 3, none⟩) heB).trans d3⟩ : _ ∧ _ ∧ _ ∧ _ ∧ _ ∧ _ ∧ _ ∧ _)
        clear ho hv
        by_cases hz : o = 0
        · have eB := Lib.hid (show B = true by rw [HB.out]; exact decide_eq_true (hht.1 hz))
          subst hz
          clear hht
          go_wp2_with fail
          have hH := Y.out _ hBd
          clear d0 d1 d2 d3 y0 y1 y2 y3
          refine wp_region_any (by kernel_rfl) ?_
          refine wpAny_of_held (S := fun w' => w'.cell? ⟨w.heap.size, 0, none⟩ = some (.int .i64 k) ∧ w'.cell? ⟨w.heap.size, 1, none⟩ = some (.int .i64 i) ∧ w'.cell? ⟨w.heap.size, 2, none⟩ = some (.string s) ∧ w'.cell? ⟨w.heap.size, 3, none⟩ = some (.bool b) ∧ w'.cell? ⟨e, f + h * 4, none⟩ = some (.int .i64 v.kind) ∧ w'.cell? ⟨e, f + h * 4 + 1, none⟩ = some (.int .i64 v.i) ∧ w'.cell? ⟨e, f + h * 4 + 2, none⟩ = some (.string v.s) ∧ w'.cell? ⟨e, f + h * 4 + 3, none⟩ = some (.bool v.b)) _ _ _ _ ?_
          change wpAnyH _ _ _ _ _ 17 (Array.replicate 17 false) _ wr.drew
          refine Rt.take (i := 0) (d := 33) (v := (.int .i64 h)) rfl rfl (by kernel_rfl) (by kernel_rfl) (by kernel_rfl) (fun _ _ _ h => h) (Or.inl ⟨by rfl, ?_⟩) hH ?_
          · rintro w' ⟨s0, s1, s2, s3, s4, s5, s6, s7⟩
            go_simp
          (try simp only [List.setIfInBounds_toArray, List.set_cons_zero, List.set_cons_succ])
          refine Rt.take (i := 1) (d := 34) (v := (.int .i64 h)) rfl rfl (by kernel_rfl) (by kernel_rfl) (by kernel_rfl) (fun _ _ _ h => h) (Or.inl ⟨by rfl, ?_⟩) hH ?_
          · rintro w' ⟨s0, s1, s2, s3, s4, s5, s6, s7⟩
            go_simp
          (try simp only [List.setIfInBounds_toArray, List.set_cons_zero, List.set_cons_succ])
          refine Rt.take (i := 2) (d := 35) (v := (.slice (some ⟨e, f, none⟩) m c)) rfl rfl (by kernel_rfl) (by kernel_rfl) (by kernel_rfl) (fun _ _ _ h => h) (Or.inl ⟨by rfl, ?_⟩) hH ?_
          · rintro w' ⟨s0, s1, s2, s3, s4, s5, s6, s7⟩
            go_simp
          (try simp only [List.setIfInBounds_toArray, List.set_cons_zero, List.set_cons_succ])
          refine Rt.take (i := 3) (d := 36) (v := (.int .i64 m)) rfl rfl (by kernel_rfl) (by kernel_rfl) (by kernel_rfl) (fun _ _ _ h => h) (Or.inl ⟨by rfl, ?_⟩) hH ?_
          · rintro w' ⟨s0, s1, s2, s3, s4, s5, s6, s7⟩
            go_simp
          (try simp only [List.setIfInBounds_toArray, List.set_cons_zero, List.set_cons_succ])
          refine Rt.take (i := 4) (d := 37) (v := .bool true) rfl rfl (by kernel_rfl) (by kernel_rfl) (by kernel_rfl) (fun _ _ _ h => h) (Or.inl ⟨by rfl, ?_⟩) hH ?_
          · rintro w' ⟨s0, s1, s2, s3, s4, s5, s6, s7⟩
            go_simp
          (try simp only [List.setIfInBounds_toArray, List.set_cons_zero, List.set_cons_succ])
          refine Rt.take (i := 5) (d := 38) (v := .bool true) rfl rfl (by kernel_rfl) (by kernel_rfl) (by kernel_rfl) (fun _ _ _ h => h) (Or.inl ⟨by rfl, ?_⟩) hH ?_
          · rintro w' ⟨s0, s1, s2, s3, s4, s5, s6, s7⟩
            go_simp
          (try simp only [List.setIfInBounds_toArray, List.set_cons_zero, List.set_cons_succ])
          refine Rt.take (i := 6) (d := 39) (v := (.func (.func 74) #[] #[])) rfl rfl (by kernel_rfl) (by kernel_rfl) (by kernel_rfl) (fun _ _ _ h => h) (Or.inl ⟨by rfl, ?_⟩) hH ?_
          · rintro w' ⟨s0, s1, s2, s3, s4, s5, s6, s7⟩
            go_simp
          (try simp only [List.setIfInBounds_toArray, List.set_cons_zero, List.set_cons_succ])
          refine Rt.take (i := 7) (d := 40) (v := (.slice (some ⟨e, f, none⟩) m c)) rfl rfl (by kernel_rfl) (by kernel_rfl) (by kernel_rfl) (fun _ _ _ h => h) (Or.inl ⟨by rfl, ?_⟩) hH ?_
          · rintro w' ⟨s0, s1, s2, s3, s4, s5, s6, s7⟩
            go_simp
          (try simp only [List.setIfInBounds_toArray, List.set_cons_zero, List.set_cons_succ])
          refine Rt.take (i := 8) (d := 41) (v := (.int .i64 h)) rfl rfl (by kernel_rfl) (by kernel_rfl) (by kernel_rfl) (fun _ _ _ h => h) (Or.inl ⟨by rfl, ?_⟩) hH ?_
          · rintro w' ⟨s0, s1, s2, s3, s4, s5, s6, s7⟩
            go_simp
          (try simp only [List.setIfInBounds_toArray, List.set_cons_zero, List.set_cons_succ])
          refine Rt.take (i := 9) (d := 42) (v := (.pointer (some ⟨e, f + h * 4, none⟩))) rfl rfl (by kernel_rfl) (by kernel_rfl) (by kernel_rfl) (fun _ _ _ h => h) (Or.inl ⟨by rfl, ?_⟩) hH ?_
          · rintro w' ⟨s0, s1, s2, s3, s4, s5, s6, s7⟩
            go_simp
          (try simp only [List.setIfInBounds_toArray, List.set_cons_zero, List.set_cons_succ])
          refine Rt.take (i := 10) (d := 43) (v := (.agg #[.int .i64 v.kind, .int .i64 v.i, .string v.s, .bool v.b])) rfl rfl (by kernel_rfl) (by kernel_rfl) (by kernel_rfl) (fun _ _ _ h => h) (Or.inl ⟨by rfl, ?_⟩) hH ?_
          · rintro w' ⟨s0, s1, s2, s3, s4, s5, s6, s7⟩
            go_simp
          (try simp only [List.setIfInBounds_toArray, List.set_cons_zero, List.set_cons_succ])
          refine Rt.take (i := 11) (d := 44) (v := (.agg #[.int .i64 k, .int .i64 i, .string s, .bool b])) rfl rfl (by kernel_rfl) (by kernel_rfl) (by kernel_rfl) (fun _ _ _ h => h) (Or.inl ⟨by rfl, ?_⟩) hH ?_
          · rintro w' ⟨s0, s1, s2, s3, s4, s5, s6, s7⟩
            go_simp
          (try simp only [List.setIfInBounds_toArray, List.set_cons_zero, List.set_cons_succ])
          refine wpAnyH_ready (rs := [12]) (by kernel_rfl) (by simp) ?_
          refine AllReadyH.cons rfl (fun K hK => ?_) AllReadyH.nil
          go_simp
          refine Co.out.mono ?_
          rintro q' w3 ⟨rfl, hB3⟩
          have hb3 : Below wa.heap.size wa w3 := hBd.trans (hB3.mono hBd.size)
          clear hH
          have hH := Y.out w3 hb3
          refine hK.out _ _ hH (fun _ => ?_)
          clear hK K
          (try simp only [Act.put, List.setIfInBounds_toArray, List.set_cons_zero, List.set_cons_succ])
          refine Rt.take (i := 13) (d := 46) (v := .bool true) rfl rfl (by kernel_rfl) (by kernel_rfl) (by kernel_rfl) (fun _ _ _ h => h) (Or.inl ⟨by rfl, ?_⟩) hH ?_
          · rintro w' ⟨s0, s1, s2, s3, s4, s5, s6, s7⟩
            go_simp
          (try simp only [List.setIfInBounds_toArray, List.set_cons_zero, List.set_cons_succ])
          refine Rt.take (i := 14) (d := 47) (v := .bool true) rfl rfl (by kernel_rfl) (by kernel_rfl) (by kernel_rfl) (fun _ _ _ h => h) (Or.inl ⟨by rfl, ?_⟩) hH ?_
          · rintro w' ⟨s0, s1, s2, s3, s4, s5, s6, s7⟩
            go_simp
          (try simp only [List.setIfInBounds_toArray, List.set_cons_zero, List.set_cons_succ])
          refine Rt.take (i := 15) (d := 6) (v := (.int .i64 h)) rfl rfl (by kernel_rfl) (by kernel_rfl) (by kernel_rfl) (fun _ _ _ h => h) (Or.inl ⟨by rfl, ?_⟩) hH ?_
          · rintro w' ⟨s0, s1, s2, s3, s4, s5, s6, s7⟩
            go_simp
          (try simp only [List.setIfInBounds_toArray, List.set_cons_zero, List.set_cons_succ])
          refine Rt.take (i := 16) (d := 7) (v := .bool true) rfl rfl (by kernel_rfl) (by kernel_rfl) (by kernel_rfl) (fun _ _ _ h => h) (Or.inl ⟨by rfl, ?_⟩) hH ?_
          · rintro w' ⟨s0, s1, s2, s3, s4, s5, s6, s7⟩
            go_simp
          (try simp only [List.setIfInBounds_toArray, List.set_cons_zero, List.set_cons_succ])
          refine wpAnyH_done (by kernel_rfl) ?_ _
          (try simp only [Exit.then])
          go_wp2_with fail
          go_ret2
          exact ⟨by rw [eB.out]; rfl, hb0.trans (hb3.mono hb0.size)⟩
        · have eB := Lib.hid (show B = false by rw [HB.out]; exact decide_eq_false (fun h => hz (hht.2 h)))
          have hz' : (o == 0) = false := by simpa using hz
          clear hht hz
          go_wp2_with fail
          have hH := Y.out _ hBd
          clear d0 d1 d2 d3 y0 y1 y2 y3
          refine wp_region_any (by kernel_rfl) ?_
          refine wpAny_of_held (S := fun w' => w'.cell? ⟨w.heap.size, 0, none⟩ = some (.int .i64 k) ∧ w'.cell? ⟨w.heap.size, 1, none⟩ = some (.int .i64 i) ∧ w'.cell? ⟨w.heap.size, 2, none⟩ = some (.string s) ∧ w'.cell? ⟨w.heap.size, 3, none⟩ = some (.bool b) ∧ w'.cell? ⟨e, f + h * 4, none⟩ = some (.int .i64 v.kind) ∧ w'.cell? ⟨e, f + h * 4 + 1, none⟩ = some (.int .i64 v.i) ∧ w'.cell? ⟨e, f + h * 4 + 2, none⟩ = some (.string v.s) ∧ w'.cell? ⟨e, f + h * 4 + 3, none⟩ = some (.bool v.b)) _ _ _ _ ?_
          change wpAnyH _ _ _ _ _ 17 (Array.replicate 17 false) _ wr.drew
          refine Rt.take (i := 0) (d := 33) (v := (.int .i64 h)) rfl rfl (by kernel_rfl) (by kernel_rfl) (by kernel_rfl) (fun _ _ _ h => h) (Or.inl ⟨by rfl, ?_⟩) hH ?_
          · rintro w' ⟨s0, s1, s2, s3, s4, s5, s6, s7⟩
            go_simp
          (try simp only [List.setIfInBounds_toArray, List.set_cons_zero, List.set_cons_succ])
          refine Rt.take (i := 1) (d := 34) (v := (.int .i64 h)) rfl rfl (by kernel_rfl) (by kernel_rfl) (by kernel_rfl) (fun _ _ _ h => h) (Or.inl ⟨by rfl, ?_⟩) hH ?_
          · rintro w' ⟨s0, s1, s2, s3, s4, s5, s6, s7⟩
            go_simp
          (try simp only [List.setIfInBounds_toArray, List.set_cons_zero, List.set_cons_succ])
          refine Rt.take (i := 2) (d := 35) (v := (.slice (some ⟨e, f, none⟩) m c)) rfl rfl (by kernel_rfl) (by kernel_rfl) (by kernel_rfl) (fun _ _ _ h => h) (Or.inl ⟨by rfl, ?_⟩) hH ?_
          · rintro w' ⟨s0, s1, s2, s3, s4, s5, s6, s7⟩
            go_simp
          (try simp only [List.setIfInBounds_toArray, List.set_cons_zero, List.set_cons_succ])
          refine Rt.take (i := 3) (d := 36) (v := (.int .i64 m)) rfl rfl (by kernel_rfl) (by kernel_rfl) (by kernel_rfl) (fun _ _ _ h => h) (Or.inl ⟨by rfl, ?_⟩) hH ?_
          · rintro w' ⟨s0, s1, s2, s3, s4, s5, s6, s7⟩
            go_simp
          (try simp only [List.setIfInBounds_toArray, List.set_cons_zero, List.set_cons_succ])
          refine Rt.take (i := 4) (d := 37) (v := .bool true) rfl rfl (by kernel_rfl) (by kernel_rfl) (by kernel_rfl) (fun _ _ _ h => h) (Or.inl ⟨by rfl, ?_⟩) hH ?_
          · rintro w' ⟨s0, s1, s2, s3, s4, s5, s6, s7⟩
            go_simp
          (try simp only [List.setIfInBounds_toArray, List.set_cons_zero, List.set_cons_succ])
          refine Rt.take (i := 5) (d := 38) (v := .bool true) rfl rfl (by kernel_rfl) (by kernel_rfl) (by kernel_rfl) (fun _ _ _ h => h) (Or.inl ⟨by rfl, ?_⟩) hH ?_
          · rintro w' ⟨s0, s1, s2, s3, s4, s5, s6, s7⟩
            go_simp
          (try simp only [List.setIfInBounds_toArray, List.set_cons_zero, List.set_cons_succ])
          refine Rt.take (i := 6) (d := 39) (v := (.func (.func 74) #[] #[])) rfl rfl (by kernel_rfl) (by kernel_rfl) (by kernel_rfl) (fun _ _ _ h => h) (Or.inl ⟨by rfl, ?_⟩) hH ?_
          · rintro w' ⟨s0, s1, s2, s3, s4, s5, s6, s7⟩
            go_simp
          (try simp only [List.setIfInBounds_toArray, List.set_cons_zero, List.set_cons_succ])
          refine Rt.take (i := 7) (d := 40) (v := (.slice (some ⟨e, f, none⟩) m c)) rfl rfl (by kernel_rfl) (by kernel_rfl) (by kernel_rfl) (fun _ _ _ h => h) (Or.inl ⟨by rfl, ?_⟩) hH ?_
          · rintro w' ⟨s0, s1, s2, s3, s4, s5, s6, s7⟩
            go_simp
          (try simp only [List.setIfInBounds_toArray, List.set_cons_zero, List.set_cons_succ])
          refine Rt.take (i := 8) (d := 41) (v := (.int .i64 h)) rfl rfl (by kernel_rfl) (by kernel_rfl) (by kernel_rfl) (fun _ _ _ h => h) (Or.inl ⟨by rfl, ?_⟩) hH ?_
          · rintro w' ⟨s0, s1, s2, s3, s4, s5, s6, s7⟩
            go_simp
          (try simp only [List.setIfInBounds_toArray, List.set_cons_zero, List.set_cons_succ])
          refine Rt.take (i := 9) (d := 42) (v := (.pointer (some ⟨e, f + h * 4, none⟩))) rfl rfl (by kernel_rfl) (by kernel_rfl) (by kernel_rfl) (fun _ _ _ h => h) (Or.inl ⟨by rfl, ?_⟩) hH ?_
          · rintro w' ⟨s0, s1, s2, s3, s4, s5, s6, s7⟩
            go_simp
          (try simp only [List.setIfInBounds_toArray, List.set_cons_zero, List.set_cons_succ])
          refine Rt.take (i := 10) (d := 43) (v := (.agg #[.int .i64 v.kind, .int .i64 v.i, .string v.s, .bool v.b])) rfl rfl (by kernel_rfl) (by kernel_rfl) (by kernel_rfl) (fun _ _ _ h => h) (Or.inl ⟨by rfl, ?_⟩) hH ?_
          · rintro w' ⟨s0, s1, s2, s3, s4, s5, s6, s7⟩
            go_simp
          (try simp only [List.setIfInBounds_toArray, List.set_cons_zero, List.set_cons_succ])
          refine Rt.take (i := 11) (d := 44) (v := (.agg #[.int .i64 k, .int .i64 i, .string s, .bool b])) rfl rfl (by kernel_rfl) (by kernel_rfl) (by kernel_rfl) (fun _ _ _ h => h) (Or.inl ⟨by rfl, ?_⟩) hH ?_
          · rintro w' ⟨s0, s1, s2, s3, s4, s5, s6, s7⟩
            go_simp
          (try simp only [List.setIfInBounds_toArray, List.set_cons_zero, List.set_cons_succ])
          refine wpAnyH_ready (rs := [12]) (by kernel_rfl) (by simp) ?_
          refine AllReadyH.cons rfl (fun K hK => ?_) AllReadyH.nil
          go_simp
          refine Co.out.mono ?_
          rintro q' w3 ⟨rfl, hB3⟩
          have hb3 : Below wa.heap.size wa w3 := hBd.trans (hB3.mono hBd.size)
          clear hH
          have hH := Y.out w3 hb3
          refine hK.out _ _ hH (fun _ => ?_)
          clear hK K
          (try simp only [Act.put, List.setIfInBounds_toArray, List.set_cons_zero, List.set_cons_succ])
          refine Rt.take (i := 13) (d := 46) (v := .bool false) rfl rfl (by kernel_rfl) (by kernel_rfl) (by kernel_rfl) (fun _ _ _ h => h) (Or.inl ⟨by rfl, ?_⟩) hH ?_
          · rintro w' ⟨s0, s1, s2, s3, s4, s5, s6, s7⟩
            go_simp
          (try simp only [List.setIfInBounds_toArray, List.set_cons_zero, List.set_cons_succ])
          refine Rt.take (i := 14) (d := 47) (v := .bool false) rfl rfl (by kernel_rfl) (by kernel_rfl) (by kernel_rfl) (fun _ _ _ h => h) (Or.inl ⟨by rfl, ?_⟩) hH ?_
          · rintro w' ⟨s0, s1, s2, s3, s4, s5, s6, s7⟩
            go_simp
          (try simp only [List.setIfInBounds_toArray, List.set_cons_zero, List.set_cons_succ])
          refine Rt.take (i := 15) (d := 6) (v := (.int .i64 h)) rfl rfl (by kernel_rfl) (by kernel_rfl) (by kernel_rfl) (fun _ _ _ h => h) (Or.inl ⟨by rfl, ?_⟩) hH ?_
          · rintro w' ⟨s0, s1, s2, s3, s4, s5, s6, s7⟩
            go_simp
          (try simp only [List.setIfInBounds_toArray, List.set_cons_zero, List.set_cons_succ])
          refine Rt.take (i := 16) (d := 7) (v := .bool false) rfl rfl (by kernel_rfl) (by kernel_rfl) (by kernel_rfl) (fun _ _ _ h => h) (Or.inl ⟨by rfl, ?_⟩) hH ?_
          · rintro w' ⟨s0, s1, s2, s3, s4, s5, s6, s7⟩
            go_simp
          (try simp only [List.setIfInBounds_toArray, List.set_cons_zero, List.set_cons_succ])
          refine wpAnyH_done (by kernel_rfl) ?_ _
          (try simp only [Exit.then])
          go_wp2_with fail
          go_ret2
          exact ⟨by rw [eB.out]; rfl, hb0.trans (hb3.mono hb0.size)⟩
      · have hpI : ¬ (h : Int) < (m : Int) := by omega
        have eB := Lib.hid (show B = false by rw [HB.out]; exact decide_eq_false (Hend.out hp))
        go_wp2_with fail
        go_quiet (fail)
        go_wp2_with fail
        go_ret2
        exact ⟨by rw [eB.out]; rfl, hb0.trans ((Wd.below_drewN hB _).mono hb0.size)⟩
end Dt
end Go.Proofs.YtnhgijlhnamolaaDoor
namespace Go.Proofs.YtnhgijlhnamolaaDoor
set_option maxRecDepth 20000
open Go.RowKit
namespace Dt
open Va (Vl May ord null)
open Dc Dx
/-- The sort of a row of the call's own, nil or not. -/
theorem sort_all (B n c : Nat) (A : Option Addr) (L : List Vl) (w : World) (hown : w.ownsRow B 48 4 (.slice A n c) n (Wd.flatV L)) (h1 : ∀ x ∈ L, Wd.V1 x) (hm : ∀ x ∈ L, May x) (hn : L.Nodup) (hl : L.length ≤ 4096) (hB : B ≤ w.heap.size) :
    Calls Tryd.prog 73 #[.slice A n c, .func (.func 74) #[] #[]] w fun e w' => e = .returned (.tuple #[]) ∧ Wd.Vs w' A n c (srt L) ∧ Below B w w' := by
  have hlen : n = L.length := by have := hown.1; rw [Wd.flatV_len] at this; omega
  rcases hown.2 with ⟨h', h0⟩ | ⟨g, cap, cur, h', hb, hg, h2, h3, h4, h5⟩
  · simp only [Value.slice.injEq] at h'
    obtain ⟨rfl, rfl, rfl⟩ := h'
    have e : L = [] := List.eq_nil_of_length_eq_zero hlen.symm
    subst e
    refine (Ds.sort_none none 0 _ w).mono ?_
    rintro e w' ⟨rfl, rfl⟩
    exact ⟨rfl, Wd.Vs.none_ _, Below.refl _ _⟩
  · simp only [Value.slice.injEq, true_and] at h'
    obtain ⟨rfl, rfl⟩ := h'
    refine (Ds.sort_any B g n c L w hown h1 hm hn hl).mono ?_
    rintro e w' ⟨rfl, hV, hG⟩
    exact ⟨rfl, hV, (Below.refl _ _).grown hG hB (fun x hx => by cases hx; exact hb)⟩
/-- The same, and the row of numbers is new. -/
def OutSn (w : World) (l : List Vl) (ts : List Int) (e : Ending) (w' : World) : Prop := ∃ A n c B m d, e = .returned (.tuple #[.slice A n c, .slice B m d]) ∧ Wd.Vs w' A n c l ∧ Wd.Sl w' .i64 B m d ts ∧ Below w.heap.size w w' ∧ ∀ a, B = some a → w.heap.size ≤ a.block
section
variable {w : World} {d m : Nat} {v : Value} {L : List Vl} {k : Int} {G : Nat → Prop}
set_option maxHeartbeats 4000000 in
theorem sorted_new (h : Lay w d m v L k G) (hd : Dis L k) (ho : ∀ x ∈ L, Okv x) : Calls Tryd.prog 48 #[pt d] w (OutSn w (srt L) (tos L)) := by
  obtain ⟨i0, hi, hz0, hz1, hz2⟩ := info_parts info_i
  obtain ⟨A, n, c, hv, hV⟩ := h.vs ho
  have hlb := lim_bd k
  have hdl := hd.len
  have hL4 : L.length ≤ 4096 := by omega
  have hn4 : n ≤ 4096 := by rw [hV.len]; exact hL4
  have Hm := Lib.hid hV.len
  have hcap := hV.cap
  have hmx := hV.max
  unfold maxLen at hmx
  have cells := fun w' (hb : Below w.heap.size w w') => by
    have hl := h.below hb
    have c2 := hl.box.cell 2
    simp at c2
    rw [hv] at c2
    exact c2
  have Cells := Lib.hid cells
  have HV := Lib.hid hV
  have Hd := Lib.hid hd
  have Ho := Lib.hid ho
  have Cc := Lib.hid (Ds.clone_any A n c L w hV hL4)
  have c2 := cells w (Below.refl _ _)
  have hdlt := h.box.lt
  have Cs := Lib.hid fun A1 c1 w1 (hown : w1.ownsRow w.heap.size 48 4 (.slice A1 n c1) n (Wd.flatV L)) (hb : w.heap.size ≤ w1.heap.size) => sort_all w.heap.size n c1 A1 L w1 hown (fun x hx => (ho x hx).1) hd.may hd.nd hL4 hb
  clear cells hV h hlb hdl hv hd ho
  go_enter Tryd.func48, Tryd.ntmps48
  go_wp2_with fail
  refine Cc.out.mono ?_
  rintro e w1 ⟨v1, rfl, hO1, hB1⟩
  rw [← Hm.out] at hO1
  obtain ⟨A1, c1, rfl⟩ := own_shape hO1
  have HO1 := Lib.hid hO1
  clear Cc hO1 c2
  go_wp2_with fail
  refine (Cs.out A1 c1 w1 HO1.out hB1.size).mono ?_
  rintro e w2 ⟨rfl, hV2, hB2⟩
  have hb2 := hB1.trans hB2
  have HV2 := Lib.hid hV2
  clear Cs HO1 hV2 hB2 hB1
  go_wp2_with (at_make; refine wpList_make_full _ rfl (.tmp 18) (.tmp 18) 45 rfl w2.heap.size 3 i0 _ 1 Tryd.underlying45 hi hz0 hz1 .i64 .i64 n n n rfl rfl rfl rfl (by rw [hz2]; omega) (by unfold maxLen; omega) (Nat.le_refl _) ?_; intro w3 hown3 hgrow3; have hb23 : Below w2.heap.size w2 w3 := (Below.refl _ _).grown hgrow3 (Nat.le_refl _) (by simp); have c3 := Cells.out w3 (hb2.trans (hb23.mono hb2.size)))
  rw [Wd.made_zero] at hown3
  have hR3 := (Wd.Row.of_own hown3).1
  have I0 := Lib.hid (And.intro hR3 hb23)
  have Hb2 := Lib.hid hb2
  have hz2w := hb2.size
  have Hris := Lib.hid (srt_ris Hd.out.may Hd.out.nd)
  clear hown3 hgrow3 hR3 hb23 hb2 c3
  go_loopw [25] (fun i wr => ∃ k : Nat, i = .int .i64 k ∧ k ≤ n ∧ Wd.Row wr w2.heap.size .i64 3 (Wd.fill (tos L) k) ∧ Below w2.heap.size w2 wr) (fun i _ => n - (intOf i).toNat)
  case atStart =>
    refine ⟨0, rfl, Nat.zero_le _, ?_, I0.out.2⟩
    rw [Wd.fill_zero, tos_len, ← Hm.out]
    exact I0.out.1
  case round =>
    obtain ⟨k, rfl, hk, hR, hB⟩ := hrel
    by_cases hlt : k < n
    · have hkl : k < L.length := by rw [← Hm.out]; exact hlt
      have hBw := Hb2.out.trans (hB.mono hz2w)
      obtain ⟨e, f, hA, heB, d0, d1, d2, d3, _⟩ := (HV.out.below hBw).cells (j := k) hkl rfl
      subst hA
      have htos := tos_getD hkl
      have hxm := getD_mem hkl
      obtain ⟨x, hx⟩ : ∃ x, x = L.getD k default := ⟨_, rfl⟩
      rw [← hx] at d0 d1 d2 d3 htos hxm
      have Cp := fun w' (hb : Below w2.heap.size w2 w') => place_any A1 n c1 (srt L) x.kind x.i x.s x.b w' (HV2.out.below hb) Hris.out (Hd.out.may x hxm)
      rw [show (⟨x.kind, x.i, x.s, x.b⟩ : Vl) = x from rfl, place_perm (srt_perm L) x] at Cp
      generalize place L x = p at *
      generalize decide (x ∈ srt L) = bb at *
      have Htos := Lib.hid htos
      have Hkt := Lib.hid (show k < (tos L).length by rw [tos_len]; exact hkl)
      have Cp := Lib.hid Cp
      have hb4 : Below w2.heap.size w2 (wr.alloc (.cells #[.int .i64 x.kind, .int .i64 x.i, .string x.s, .bool x.b] 48)) := hB.alloc hB.size _
      have hR4 := hR.below hR.lt ((Below.refl wr.heap.size wr).alloc (Nat.le_refl _) (.cells #[.int .i64 x.kind, .int .i64 x.i, .string x.s, .bool x.b] 48))
      have hkI : (k : Int) < (n : Int) := by omega
      clear hx hxm htos hkl hBw hR hB
      go_wp2_with fail
      generalize wr.alloc (.cells #[.int .i64 x.kind, .int .i64 x.i, .string x.s, .bool x.b] 48) = wv at *
      clear d0 d1 d2 d3
      refine (Cp.out _ hb4).mono ?_
      rintro e' w5 ⟨rfl, hB5⟩
      have hb5 := hb4.trans (hB5.mono hb4.size)
      have hR5 := hR4.below hR4.lt hB5
      have cg := hR5.cell k (by rw [Wd.fill_len]; exact Hkt.out)
      have cf := hR5.free k
      have hst : Wd.Row (w5.setCell ⟨w2.heap.size, k, none⟩ (.int .i64 (p : Int))) w2.heap.size .i64 3 (Wd.fill (tos L) (k + 1)) := by
        rw [← Wd.fill_set (tos L) k Hkt.out, Htos.out]
        exact hR5.set k _
      have hb6 := hb5.setCell (p := ⟨w2.heap.size, k, none⟩) (Nat.le_refl _) (.int .i64 (p : Int))
      clear hR4 hR5 hB5 hb4 hb5 Cp
      go_wp2_with fail
      go_roundw
      case rel => exact ⟨k + 1, by go_num, by omega, hst, hb6⟩
      case measure => simp [intOf]; omega
    · have hkI : ¬ (k : Int) < n := by omega
      have hkm : k = n := by omega
      have e2 : Wd.fill (tos L) k = tos L := by rw [hkm, Hm.out, ← tos_len L, Wd.fill_all]
      rw [e2] at hR
      have hBw := Hb2.out.trans (hB.mono hz2w)
      clear e2 hkm
      go_wp2_with fail
      go_ret2
      exact ⟨_, _, _, _, _, _, rfl, HV2.out.below hB, hR.sl n (by rw [tos_len]; exact Hm.out) (by unfold maxLen; omega), hBw, fun a ha => by cases ha; exact hz2w⟩
theorem sorted_any (h : Lay w d m v L k G) (hd : Dis L k) (ho : ∀ x ∈ L, Okv x) : Calls Tryd.prog 48 #[pt d] w (OutS w (srt L) (tos L)) :=
  (sorted_new h hd ho).mono fun _ _ ⟨A, n, c, B, m, d, q⟩ => ⟨A, n, c, B, m, d, q.1, q.2.1, q.2.2.1, q.2.2.2.1⟩
end
end Dt
end Go.Proofs.YtnhgijlhnamolaaDoor
