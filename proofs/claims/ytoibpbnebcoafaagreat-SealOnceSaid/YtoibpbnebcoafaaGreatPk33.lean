/- slices.Clone of a slice of values; slices.SortFunc of no values. What place of package dict does: the binary search. -/
import Derived.WalkKit
import Derived.WalkSpells
import Derived.Laws.EntriesVeiled
import Derived.Deep.RegionWith
import Derived.Deep.QuietTactic
import Derived.BigQuiet
import Derived.Test.YtoibpbnebcoafaaGreatPk32
import Derived.Test.YtoibpbnebcoafaaGreatPk09
import Derived.Test.YtoibpbnebcoafaaGreatPk23
import Derived.Test.YtoibpbnebcoafaaGreatPk19
import Derived.Test.YtoibpbnebcoafaaGreatPk13
namespace Go.Proofs.YtoibpbnebcoafaaGreat
set_option maxRecDepth 20000
open Go.RowKit Go.Shelf
namespace Ds
open Va (Vl May ord null)
open Dc Dx
theorem ins_none (p : Option Addr) (c : Nat) (fv : Value) (w : World) :
    Calls Tryz.prog 163 #[.slice p 0 c, .int .i64 0, .int .i64 0, fv] w fun e w' => e = .returned (.tuple #[]) ∧ w' = w := by
  go_enter Tryz.func163, Tryz.ntmps163
  go_wp2
  refine wp_loop_rounds 1 ?_
  rw [rounds_succ]
  go_wp2
  go_end0
  exact ⟨rfl, rfl⟩
theorem pdq_none (p : Option Addr) (c : Nat) (lim : Int) (fv : Value) (w : World) :
    Calls Tryz.prog 156 #[.slice p 0 c, .int .i64 0, .int .i64 0, .int .i64 lim, fv] w fun e w' => e = .returned (.tuple #[]) ∧ w' = w := by
  have hi := Lib.hid fun W => ins_none p c fv W
  go_enter Tryz.func156, Tryz.ntmps156
  go_wp2
  refine wp_loop_rounds 1 ?_
  rw [rounds_succ]
  go_wp2_with (go_at_call 163; refine (hi.out _).mono ?_; rintro e w' ⟨rfl, rfl⟩)
  (try simp only [Exit.inBlock, Exit.then])
  refine bodyPost_ret (results_none rfl _ _ _) rfl ?_
  exact ⟨rfl, rfl⟩
theorem sort_none (p : Option Addr) (c : Nat) (fv : Value) (w : World) :
    Calls Tryz.prog 139 #[.slice p 0 c, fv] w fun e w' => e = .returned (.tuple #[]) ∧ w' = w := by
  have hp := Lib.hid fun lim W => pdq_none p c lim fv W
  have hl : ∀ W, Calls Tryz.prog 133 #[.int .u64 0] W fun e w' => (∃ n : Int, e = .returned (.int .i64 n)) ∧ w' = W := fun W => by
    have h := Any.bits_Len (SlLaysF0.n15.bits { Tryz.sortV with }) 0 W (by omega) (by omega)
    change Calls Tryz.prog 133 _ _ _ at h
    exact h.mono fun _ _ h => ⟨⟨_, h.1⟩, h.2⟩
  have Hl := Lib.hid hl
  clear hl
  go_enter Tryz.func139, Tryz.ntmps139
  go_wp2_with (first | (go_at_call 133; refine (Hl.out _).mono ?_; rintro e w' ⟨⟨n, rfl⟩, rfl⟩) | (go_at_call 156; refine (hp.out _ _).mono ?_; rintro e w' ⟨rfl, rfl⟩))
  go_end0
  exact ⟨rfl, rfl⟩
theorem clone_any (R : Option Addr) (m c : Nat) (L : List Vl) (w : World) (hV : Wd.Vs w R m c L) (hL : L.length ≤ 4096) :
    Calls Tryz.prog 138 #[.slice R m c] w fun e w' => ∃ v, e = .returned v ∧ w'.ownsRow w.heap.size 56 4 v L.length (Wd.flatV L) ∧ Below w.heap.size w w' := by
  rcases R with _ | ad
  · have hc := hV.nil rfl
    have hm : m = 0 := by have := hV.cap; omega
    have hl : L = [] := List.eq_nil_of_length_eq_zero (by rw [← hV.len]; exact hm)
    subst hc hm hl
    have hnil : ∀ (w : World) (n c : Nat), (binOp .eql 45 (.slice none n c) (.slice none 0 0)).run Tryz.prog w = .ok (.bool true) w := fun _ _ _ => by kernel_rfl
    clear hV
    go_enter Tryz.func138, Tryz.ntmps138
    go_wp2
    go_ret
    exact ⟨_, rfl, World.ownsRow_nil _ _ _ _, Below.refl _ _⟩
  · have hnil : ∀ (w : World) (n c : Nat) , (binOp .eql 45 (.slice (some ad) n c) (.slice none 0 0)).run Tryz.prog w = .ok (.bool false) w := fun _ _ _ => by kernel_rfl
    have hb := (Below.refl w.heap.size w).alloc (Nat.le_refl _) (.cells #[] 56)
    have HV := Lib.hid (hV.below hb)
    have ho := World.ownsRow_lit (e := 56) (size := 4) (base := w.heap.size) w #[] 0 (Nat.le_refl _) (by simp [maxLen]) rfl
    clear hV
    go_enter Tryz.func138, Tryz.ntmps138
    go_wp2_with (at_builtin; refine Wd.wpList_appVs _ rfl (.tmp 5) (.tmp 6) rfl w.heap.size (.slice (some ⟨w.heap.size, 0, none⟩) 0 0) [] rfl ho (some ad) m c L rfl HV.out (by simp; omega) (by simp) ?_; intro v' w1 hown hg)
    go_ret
    exact ⟨v', rfl, by simpa using hown, hb.grown hg (by simp) (by simp [Value.ownBlock])⟩
end Ds
end Go.Proofs.YtoibpbnebcoafaaGreat
namespace Go.Proofs.YtoibpbnebcoafaaGreat
set_option maxRecDepth 20000
open Go.RowKit
namespace Dt
open Va (Vl May ord null)
open Vc (order_any)
open Dc Dx
/-- Whether the value at the place is the one that is sought. -/
theorem place_hit {l : List Vl} {x : Vl} (hr : Ris l) (hx : May x) (hp : place l x < l.length) : ord (l.getD (place l x) default) x = 0 ↔ x ∈ l := by
  have hm := getD_mem hp
  rw [Va.ord_zero (hr.1 _ hm) hx, ris_mem hr.2 x, getD_at hp]
  exact ⟨fun e => by rw [e], fun e => Option.some.inj e⟩
theorem place_end {l : List Vl} {x : Vl} (hr : Ris l) (hp : ¬ place l x < l.length) : x ∉ l := by
  rw [ris_mem hr.2 x, List.getElem?_eq_none (by omega)]
  simp
theorem place_mid {l : List Vl} {x : Vl} (hr : Ris l) {j : Nat} (hj : j < l.length) : ord (l.getD j default) x < 0 ↔ j < place l x := up_split hr.2 x j _ (getD_at hj)
set_option maxHeartbeats 4000000 in
theorem place_any (R : Option Addr) (m c : Nat) (l : List Vl) (k i : Int) (s : ByteArray) (b : Bool) (w : World) (hV : Wd.Vs w R m c l) (hr : Ris l) (hx : May ⟨k, i, s, b⟩) :
    Calls Tryz.prog 140 #[.slice R m c, .agg #[.int .i64 k, .int .i64 i, .string s, .bool b], .func (.func 87) #[] #[]] w fun e w' => e = .returned (.tuple #[.int .i64 (place l ⟨k, i, s, b⟩ : Nat), .bool (decide (⟨k, i, s, b⟩ ∈ l))]) ∧ Below w.heap.size w w' := by
  have hb0 := (Below.refl w.heap.size w).alloc (Nat.le_refl _) (.cells #[.int .i64 k, .int .i64 i, .string s, .bool b] 56)
  have x0 : Vc.Vb (w.alloc (.cells #[.int .i64 k, .int .i64 i, .string s, .bool b] 56)) w.heap.size k i s b := Wd.Bx.new w _ _
  have Hm := Lib.hid hV.len
  have HV := Lib.hid (hV.below hb0)
  have hcap := hV.cap
  have hmx := hV.max
  unfold maxLen at hmx
  have Hmid := Lib.hid fun (j : Nat) (hj : j < m) => place_mid (x := ⟨k, i, s, b⟩) hr (j := j) (by rw [← Hm.out]; exact hj)
  have Hhit := Lib.hid fun (hp : place l ⟨k, i, s, b⟩ < m) => place_hit hr hx (by rw [← Hm.out]; exact hp)
  have Hend := Lib.hid fun (hp : ¬ place l ⟨k, i, s, b⟩ < m) => place_end (x := ⟨k, i, s, b⟩) hr (by rw [← Hm.out]; exact hp)
  have hpl : place l ⟨k, i, s, b⟩ ≤ m := by rw [Hm.out]; exact place_le _ _
  obtain ⟨B, hB⟩ : ∃ B, B = decide (⟨k, i, s, b⟩ ∈ l) := ⟨_, rfl⟩
  rw [← hB]
  have HB := Lib.hid hB
  generalize place l ⟨k, i, s, b⟩ = p at *
  have Hx0 := Lib.hid x0
  clear hV hr hx hB x0
  go_enter Tryz.func140, Tryz.ntmps140
  go_wp2_with fail
  generalize w.alloc (.cells #[.int .i64 k, .int .i64 i, .string s, .bool b] 56) = wa at *
  have hl0 := Wd.Bx.lt Hx0.out
  go_loopw [8, 9] (fun lo hi wr => ∃ a h : Nat, lo = .int .i64 a ∧ hi = .int .i64 h ∧ a ≤ p ∧ p ≤ h ∧ h ≤ m ∧ Below wa.heap.size wa wr) (fun lo hi _ => (intOf hi).toNat - (intOf lo).toNat)
  case atStart => exact ⟨0, m, rfl, rfl, Nat.zero_le _, hpl, Nat.le_refl _, Below.refl _ _⟩
  case round =>
    obtain ⟨a, h, rfl, rfl, ha, hh, hm, hB⟩ := hrel
    obtain ⟨⟨y0, y1, y2, y3⟩, -⟩ := Vc.four (Hx0.out.below hl0 hB)
    by_cases hlt : a < h
    · have hq : a + (h - a) / 2 < m := by omega
      obtain ⟨q, hqq⟩ : ∃ q, q = a + (h - a) / 2 := ⟨_, rfl⟩
      obtain ⟨e, f, hR, heB, d0, d1, d2, d3, _⟩ := (HV.out.below hB).cells (j := q) (by rw [← Hm.out]; omega) rfl
      subst hR
      have hqI : (a : Int) + ((h : Int) - (a : Int)) / 2 = (q : Int) := by omega
      have hqa : a ≤ q ∧ q < h := by omega
      have hmd := Hmid.out q (by omega)
      have hqm : (q : Int) < (m : Int) := by omega
      obtain ⟨v, hv⟩ : ∃ v, v = l.getD q default := ⟨_, rfl⟩
      rw [← hv] at d0 d1 d2 d3 hmd
      have Co := Lib.hid (order_any v.kind v.i v.s v.b k i s b wr.drew)
      obtain ⟨o, ho⟩ : ∃ o, o = ord v ⟨k, i, s, b⟩ := ⟨_, rfl⟩
      rw [show ord ⟨v.kind, v.i, v.s, v.b⟩ ⟨k, i, s, b⟩ = o from ho.symm] at Co
      rw [← ho] at hmd
      have hBd := hB.drew
      clear ho hv hqq
      go_wp2_with fail
      clear hqI
      by_cases hz : o < 0
      · have hqp := hmd.1 hz
        clear hmd
        go_region_with (go_at_call 87; (with_reducible refine Co.out.mono ?_); rintro q' w3 ⟨rfl, hB3⟩; have hb3 : Below wa.heap.size wa w3 := hBd.trans (hB3.mono hBd.size))
        all_goals (
          go_wp2_with fail
          go_roundw
          case rel => exact ⟨q + 1, h, by go_num, rfl, by omega, hh, hm, hb3⟩
          case measure => simp [intOf]; omega)
      · have hqp : p ≤ q := by have := mt hmd.2 hz; omega
        clear hmd
        go_region_with (go_at_call 87; (with_reducible refine Co.out.mono ?_); rintro q' w3 ⟨rfl, hB3⟩; have hb3 : Below wa.heap.size wa w3 := hBd.trans (hB3.mono hBd.size))
        all_goals (
          go_wp2_with fail
          go_roundw
          case rel => exact ⟨a, q, rfl, by go_num, ha, hqp, by omega, hb3⟩
          case measure => simp [intOf]; omega)
    · obtain rfl : a = p := by omega
      obtain rfl : h = a := by omega
      clear ha hh
      by_cases hp : h < m
      · obtain ⟨e, f, hR, heB, d0, d1, d2, d3, _⟩ := HV.out.cells (j := h) (by rw [← Hm.out]; exact hp) rfl
        subst hR
        have hht := Hhit.out hp
        have hpm : (h : Int) < (m : Int) := by omega
        obtain ⟨v, hv⟩ : ∃ v, v = l.getD h default := ⟨_, rfl⟩
        rw [← hv] at d0 d1 d2 d3 hht
        have Co := Lib.hid (order_any v.kind v.i v.s v.b k i s b wr.drew)
        obtain ⟨o, ho⟩ : ∃ o, o = ord v ⟨k, i, s, b⟩ := ⟨_, rfl⟩
        rw [show ord ⟨v.kind, v.i, v.s, v.b⟩ ⟨k, i, s, b⟩ = o from ho.symm] at Co
        rw [← ho] at hht
        have hBd := hB.drew
        have Y := Lib.hid fun w' (hb : Below wa.heap.size wa w') => (⟨(Vc.four (Hx0.out.below hl0 hb)).1.1, (Vc.four (Hx0.out.below hl0 hb)).1.2.1, (Vc.four (Hx0.out.below hl0 hb)).1.2.2.1, (Vc.four (Hx0.out.below hl0 hb)).1.2.2.2, (hb.cell (p := ⟨e, f + h * 4, none⟩) heB).trans d0, (hb.cell (p := ⟨e, f + h * 4 + 1, none⟩) heB).trans d1, (hb.cell (p := ⟨e, f + h * 4 + 2, none⟩) heB).trans d2, (hb.cell (p := ⟨e, f + h * 4 + 3, none⟩) heB).trans d3⟩ : _ ∧ _ ∧ _ ∧ _ ∧ _ ∧ _ ∧ _ ∧ _)
        clear ho hv
        by_cases hz : o = 0
        · have eB := Lib.hid (show B = true by rw [HB.out]; exact decide_eq_true (hht.1 hz))
          subst hz
          clear hht
          go_wp2_with fail
          have hH := Y.out _ hBd
          clear d0 d1 d2 d3 y0 y1 y2 y3
          refine wp_region_any (by kernel_rfl) ?_
          refine wpAny_of_held (S := fun w' => w'.cell? ⟨w.heap.size, 0, none⟩ = some (.int .i64 k) ∧ w'.cell? ⟨w.heap.size, 1, none⟩ = some (.int .i64 i) ∧ w'.cell? ⟨w.heap.size, 2, none⟩ = some (.string s) ∧ w'.cell? ⟨w.heap.size, 3, none⟩ = some (.bool b) ∧ w'.cell? ⟨e, f + h * 4, none⟩ = some (.int .i64 v.kind) ∧ w'.cell? ⟨e, f + h * 4 + 1, none⟩ = some (.int .i64 v.i) ∧ w'.cell? ⟨e, f + h * 4 + 2, none⟩ = some (.string v.s) ∧ w'.cell? ⟨e, f + h * 4 + 3, none⟩ = some (.bool v.b)) _ _ _ _ ?_
          change wpAnyH _ _ _ _ _ 17 (Array.replicate 17 false) _ wr.drew
          refine Rt.take (i := 0) (d := 33) (v := (.int .i64 h)) rfl rfl (by kernel_rfl) (by kernel_rfl) (by kernel_rfl) (fun _ _ _ h => h) (Or.inl ⟨by rfl, ?_⟩) hH ?_
          · rintro w' ⟨s0, s1, s2, s3, s4, s5, s6, s7⟩
            go_simp
          (try simp only [List.setIfInBounds_toArray, List.set_cons_zero, List.set_cons_succ])
          refine Rt.take (i := 1) (d := 34) (v := (.int .i64 h)) rfl rfl (by kernel_rfl) (by kernel_rfl) (by kernel_rfl) (fun _ _ _ h => h) (Or.inl ⟨by rfl, ?_⟩) hH ?_
          · rintro w' ⟨s0, s1, s2, s3, s4, s5, s6, s7⟩
            go_simp
          (try simp only [List.setIfInBounds_toArray, List.set_cons_zero, List.set_cons_succ])
          refine Rt.take (i := 2) (d := 35) (v := (.slice (some ⟨e, f, none⟩) m c)) rfl rfl (by kernel_rfl) (by kernel_rfl) (by kernel_rfl) (fun _ _ _ h => h) (Or.inl ⟨by rfl, ?_⟩) hH ?_
          · rintro w' ⟨s0, s1, s2, s3, s4, s5, s6, s7⟩
            go_simp
          (try simp only [List.setIfInBounds_toArray, List.set_cons_zero, List.set_cons_succ])
          refine Rt.take (i := 3) (d := 36) (v := (.int .i64 m)) rfl rfl (by kernel_rfl) (by kernel_rfl) (by kernel_rfl) (fun _ _ _ h => h) (Or.inl ⟨by rfl, ?_⟩) hH ?_
          · rintro w' ⟨s0, s1, s2, s3, s4, s5, s6, s7⟩
            go_simp
          (try simp only [List.setIfInBounds_toArray, List.set_cons_zero, List.set_cons_succ])
          refine Rt.take (i := 4) (d := 37) (v := .bool true) rfl rfl (by kernel_rfl) (by kernel_rfl) (by kernel_rfl) (fun _ _ _ h => h) (Or.inl ⟨by rfl, ?_⟩) hH ?_
          · rintro w' ⟨s0, s1, s2, s3, s4, s5, s6, s7⟩
            go_simp
          (try simp only [List.setIfInBounds_toArray, List.set_cons_zero, List.set_cons_succ])
          refine Rt.take (i := 5) (d := 38) (v := .bool true) rfl rfl (by kernel_rfl) (by kernel_rfl) (by kernel_rfl) (fun _ _ _ h => h) (Or.inl ⟨by rfl, ?_⟩) hH ?_
          · rintro w' ⟨s0, s1, s2, s3, s4, s5, s6, s7⟩
            go_simp
          (try simp only [List.setIfInBounds_toArray, List.set_cons_zero, List.set_cons_succ])
          refine Rt.take (i := 6) (d := 39) (v := (.func (.func 87) #[] #[])) rfl rfl (by kernel_rfl) (by kernel_rfl) (by kernel_rfl) (fun _ _ _ h => h) (Or.inl ⟨by rfl, ?_⟩) hH ?_
          · rintro w' ⟨s0, s1, s2, s3, s4, s5, s6, s7⟩
            go_simp
          (try simp only [List.setIfInBounds_toArray, List.set_cons_zero, List.set_cons_succ])
          refine Rt.take (i := 7) (d := 40) (v := (.slice (some ⟨e, f, none⟩) m c)) rfl rfl (by kernel_rfl) (by kernel_rfl) (by kernel_rfl) (fun _ _ _ h => h) (Or.inl ⟨by rfl, ?_⟩) hH ?_
          · rintro w' ⟨s0, s1, s2, s3, s4, s5, s6, s7⟩
            go_simp
          (try simp only [List.setIfInBounds_toArray, List.set_cons_zero, List.set_cons_succ])
          refine Rt.take (i := 8) (d := 41) (v := (.int .i64 h)) rfl rfl (by kernel_rfl) (by kernel_rfl) (by kernel_rfl) (fun _ _ _ h => h) (Or.inl ⟨by rfl, ?_⟩) hH ?_
          · rintro w' ⟨s0, s1, s2, s3, s4, s5, s6, s7⟩
            go_simp
          (try simp only [List.setIfInBounds_toArray, List.set_cons_zero, List.set_cons_succ])
          refine Rt.take (i := 9) (d := 42) (v := (.pointer (some ⟨e, f + h * 4, none⟩))) rfl rfl (by kernel_rfl) (by kernel_rfl) (by kernel_rfl) (fun _ _ _ h => h) (Or.inl ⟨by rfl, ?_⟩) hH ?_
          · rintro w' ⟨s0, s1, s2, s3, s4, s5, s6, s7⟩
            go_simp
          (try simp only [List.setIfInBounds_toArray, List.set_cons_zero, List.set_cons_succ])
          refine Rt.take (i := 10) (d := 43) (v := (.agg #[.int .i64 v.kind, .int .i64 v.i, .string v.s, .bool v.b])) rfl rfl (by kernel_rfl) (by kernel_rfl) (by kernel_rfl) (fun _ _ _ h => h) (Or.inl ⟨by rfl, ?_⟩) hH ?_
          · rintro w' ⟨s0, s1, s2, s3, s4, s5, s6, s7⟩
            go_simp
          (try simp only [List.setIfInBounds_toArray, List.set_cons_zero, List.set_cons_succ])
          refine Rt.take (i := 11) (d := 44) (v := (.agg #[.int .i64 k, .int .i64 i, .string s, .bool b])) rfl rfl (by kernel_rfl) (by kernel_rfl) (by kernel_rfl) (fun _ _ _ h => h) (Or.inl ⟨by rfl, ?_⟩) hH ?_
          · rintro w' ⟨s0, s1, s2, s3, s4, s5, s6, s7⟩
            go_simp
          (try simp only [List.setIfInBounds_toArray, List.set_cons_zero, List.set_cons_succ])
          refine wpAnyH_ready (rs := [12]) (by kernel_rfl) (by simp) ?_
          refine AllReadyH.cons rfl (fun K hK => ?_) AllReadyH.nil
          go_simp
          refine Co.out.mono ?_
          rintro q' w3 ⟨rfl, hB3⟩
          have hb3 : Below wa.heap.size wa w3 := hBd.trans (hB3.mono hBd.size)
          clear hH
          have hH := Y.out w3 hb3
          refine hK.out _ _ hH (fun _ => ?_)
          clear hK K
          (try simp only [Act.put, List.setIfInBounds_toArray, List.set_cons_zero, List.set_cons_succ])
          refine Rt.take (i := 13) (d := 46) (v := .bool true) rfl rfl (by kernel_rfl) (by kernel_rfl) (by kernel_rfl) (fun _ _ _ h => h) (Or.inl ⟨by rfl, ?_⟩) hH ?_
          · rintro w' ⟨s0, s1, s2, s3, s4, s5, s6, s7⟩
            go_simp
          (try simp only [List.setIfInBounds_toArray, List.set_cons_zero, List.set_cons_succ])
          refine Rt.take (i := 14) (d := 47) (v := .bool true) rfl rfl (by kernel_rfl) (by kernel_rfl) (by kernel_rfl) (fun _ _ _ h => h) (Or.inl ⟨by rfl, ?_⟩) hH ?_
          · rintro w' ⟨s0, s1, s2, s3, s4, s5, s6, s7⟩
            go_simp
          (try simp only [List.setIfInBounds_toArray, List.set_cons_zero, List.set_cons_succ])
          refine Rt.take (i := 15) (d := 6) (v := (.int .i64 h)) rfl rfl (by kernel_rfl) (by kernel_rfl) (by kernel_rfl) (fun _ _ _ h => h) (Or.inl ⟨by rfl, ?_⟩) hH ?_
          · rintro w' ⟨s0, s1, s2, s3, s4, s5, s6, s7⟩
            go_simp
          (try simp only [List.setIfInBounds_toArray, List.set_cons_zero, List.set_cons_succ])
          refine Rt.take (i := 16) (d := 7) (v := .bool true) rfl rfl (by kernel_rfl) (by kernel_rfl) (by kernel_rfl) (fun _ _ _ h => h) (Or.inl ⟨by rfl, ?_⟩) hH ?_
          · rintro w' ⟨s0, s1, s2, s3, s4, s5, s6, s7⟩
            go_simp
          (try simp only [List.setIfInBounds_toArray, List.set_cons_zero, List.set_cons_succ])
          refine wpAnyH_done (by kernel_rfl) ?_ _
          (try simp only [Exit.then])
          go_wp2_with fail
          go_ret2
          exact ⟨by rw [eB.out]; rfl, hb0.trans (hb3.mono hb0.size)⟩
        · have eB := Lib.hid (show B = false by rw [HB.out]; exact decide_eq_false (fun h => hz (hht.2 h)))
          have hz' : (o == 0) = false := by simpa using hz
          clear hht hz
          go_wp2_with fail
          have hH := Y.out _ hBd
          clear d0 d1 d2 d3 y0 y1 y2 y3
          refine wp_region_any (by kernel_rfl) ?_
          refine wpAny_of_held (S := fun w' => w'.cell? ⟨w.heap.size, 0, none⟩ = some (.int .i64 k) ∧ w'.cell? ⟨w.heap.size, 1, none⟩ = some (.int .i64 i) ∧ w'.cell? ⟨w.heap.size, 2, none⟩ = some (.string s) ∧ w'.cell? ⟨w.heap.size, 3, none⟩ = some (.bool b) ∧ w'.cell? ⟨e, f + h * 4, none⟩ = some (.int .i64 v.kind) ∧ w'.cell? ⟨e, f + h * 4 + 1, none⟩ = some (.int .i64 v.i) ∧ w'.cell? ⟨e, f + h * 4 + 2, none⟩ = some (.string v.s) ∧ w'.cell? ⟨e, f + h * 4 + 3, none⟩ = some (.bool v.b)) _ _ _ _ ?_
          change wpAnyH _ _ _ _ _ 17 (Array.replicate 17 false) _ wr.drew
          refine Rt.take (i := 0) (d := 33) (v := (.int .i64 h)) rfl rfl (by kernel_rfl) (by kernel_rfl) (by kernel_rfl) (fun _ _ _ h => h) (Or.inl ⟨by rfl, ?_⟩) hH ?_
          · rintro w' ⟨s0, s1, s2, s3, s4, s5, s6, s7⟩
            go_simp
          (try simp only [List.setIfInBounds_toArray, List.set_cons_zero, List.set_cons_succ])
          refine Rt.take (i := 1) (d := 34) (v := (.int .i64 h)) rfl rfl (by kernel_rfl) (by kernel_rfl) (by kernel_rfl) (fun _ _ _ h => h) (Or.inl ⟨by rfl, ?_⟩) hH ?_
          · rintro w' ⟨s0, s1, s2, s3, s4, s5, s6, s7⟩
            go_simp
          (try simp only [List.setIfInBounds_toArray, List.set_cons_zero, List.set_cons_succ])
          refine Rt.take (i := 2) (d := 35) (v := (.slice (some ⟨e, f, none⟩) m c)) rfl rfl (by kernel_rfl) (by kernel_rfl) (by kernel_rfl) (fun _ _ _ h => h) (Or.inl ⟨by rfl, ?_⟩) hH ?_
          · rintro w' ⟨s0, s1, s2, s3, s4, s5, s6, s7⟩
            go_simp
          (try simp only [List.setIfInBounds_toArray, List.set_cons_zero, List.set_cons_succ])
          refine Rt.take (i := 3) (d := 36) (v := (.int .i64 m)) rfl rfl (by kernel_rfl) (by kernel_rfl) (by kernel_rfl) (fun _ _ _ h => h) (Or.inl ⟨by rfl, ?_⟩) hH ?_
          · rintro w' ⟨s0, s1, s2, s3, s4, s5, s6, s7⟩
            go_simp
          (try simp only [List.setIfInBounds_toArray, List.set_cons_zero, List.set_cons_succ])
          refine Rt.take (i := 4) (d := 37) (v := .bool true) rfl rfl (by kernel_rfl) (by kernel_rfl) (by kernel_rfl) (fun _ _ _ h => h) (Or.inl ⟨by rfl, ?_⟩) hH ?_
          · rintro w' ⟨s0, s1, s2, s3, s4, s5, s6, s7⟩
            go_simp
          (try simp only [List.setIfInBounds_toArray, List.set_cons_zero, List.set_cons_succ])
          refine Rt.take (i := 5) (d := 38) (v := .bool true) rfl rfl (by kernel_rfl) (by kernel_rfl) (by kernel_rfl) (fun _ _ _ h => h) (Or.inl ⟨by rfl, ?_⟩) hH ?_
          · rintro w' ⟨s0, s1, s2, s3, s4, s5, s6, s7⟩
            go_simp
          (try simp only [List.setIfInBounds_toArray, List.set_cons_zero, List.set_cons_succ])
          refine Rt.take (i := 6) (d := 39) (v := (.func (.func 87) #[] #[])) rfl rfl (by kernel_rfl) (by kernel_rfl) (by kernel_rfl) (fun _ _ _ h => h) (Or.inl ⟨by rfl, ?_⟩) hH ?_
          · rintro w' ⟨s0, s1, s2, s3, s4, s5, s6, s7⟩
            go_simp
          (try simp only [List.setIfInBounds_toArray, List.set_cons_zero, List.set_cons_succ])
          refine Rt.take (i := 7) (d := 40) (v := (.slice (some ⟨e, f, none⟩) m c)) rfl rfl (by kernel_rfl) (by kernel_rfl) (by kernel_rfl) (fun _ _ _ h => h) (Or.inl ⟨by rfl, ?_⟩) hH ?_
          · rintro w' ⟨s0, s1, s2, s3, s4, s5, s6, s7⟩
            go_simp
          (try simp only [List.setIfInBounds_toArray, List.set_cons_zero, List.set_cons_succ])
          refine Rt.take (i := 8) (d := 41) (v := (.int .i64 h)) rfl rfl (by kernel_rfl) (by kernel_rfl) (by kernel_rfl) (fun _ _ _ h => h) (Or.inl ⟨by rfl, ?_⟩) hH ?_
          · rintro w' ⟨s0, s1, s2, s3, s4, s5, s6, s7⟩
            go_simp
          (try simp only [List.setIfInBounds_toArray, List.set_cons_zero, List.set_cons_succ])
          refine Rt.take (i := 9) (d := 42) (v := (.pointer (some ⟨e, f + h * 4, none⟩))) rfl rfl (by kernel_rfl) (by kernel_rfl) (by kernel_rfl) (fun _ _ _ h => h) (Or.inl ⟨by rfl, ?_⟩) hH ?_
          · rintro w' ⟨s0, s1, s2, s3, s4, s5, s6, s7⟩
            go_simp
          (try simp only [List.setIfInBounds_toArray, List.set_cons_zero, List.set_cons_succ])
          refine Rt.take (i := 10) (d := 43) (v := (.agg #[.int .i64 v.kind, .int .i64 v.i, .string v.s, .bool v.b])) rfl rfl (by kernel_rfl) (by kernel_rfl) (by kernel_rfl) (fun _ _ _ h => h) (Or.inl ⟨by rfl, ?_⟩) hH ?_
          · rintro w' ⟨s0, s1, s2, s3, s4, s5, s6, s7⟩
            go_simp
          (try simp only [List.setIfInBounds_toArray, List.set_cons_zero, List.set_cons_succ])
          refine Rt.take (i := 11) (d := 44) (v := (.agg #[.int .i64 k, .int .i64 i, .string s, .bool b])) rfl rfl (by kernel_rfl) (by kernel_rfl) (by kernel_rfl) (fun _ _ _ h => h) (Or.inl ⟨by rfl, ?_⟩) hH ?_
          · rintro w' ⟨s0, s1, s2, s3, s4, s5, s6, s7⟩
            go_simp
          (try simp only [List.setIfInBounds_toArray, List.set_cons_zero, List.set_cons_succ])
          refine wpAnyH_ready (rs := [12]) (by kernel_rfl) (by simp) ?_
          refine AllReadyH.cons rfl (fun K hK => ?_) AllReadyH.nil
          go_simp
          refine Co.out.mono ?_
          rintro q' w3 ⟨rfl, hB3⟩
          have hb3 : Below wa.heap.size wa w3 := hBd.trans (hB3.mono hBd.size)
          clear hH
          have hH := Y.out w3 hb3
          refine hK.out _ _ hH (fun _ => ?_)
          clear hK K
          (try simp only [Act.put, List.setIfInBounds_toArray, List.set_cons_zero, List.set_cons_succ])
          refine Rt.take (i := 13) (d := 46) (v := .bool false) rfl rfl (by kernel_rfl) (by kernel_rfl) (by kernel_rfl) (fun _ _ _ h => h) (Or.inl ⟨by rfl, ?_⟩) hH ?_
          · rintro w' ⟨s0, s1, s2, s3, s4, s5, s6, s7⟩
            go_simp
          (try simp only [List.setIfInBounds_toArray, List.set_cons_zero, List.set_cons_succ])
          refine Rt.take (i := 14) (d := 47) (v := .bool false) rfl rfl (by kernel_rfl) (by kernel_rfl) (by kernel_rfl) (fun _ _ _ h => h) (Or.inl ⟨by rfl, ?_⟩) hH ?_
          · rintro w' ⟨s0, s1, s2, s3, s4, s5, s6, s7⟩
            go_simp
          (try simp only [List.setIfInBounds_toArray, List.set_cons_zero, List.set_cons_succ])
          refine Rt.take (i := 15) (d := 6) (v := (.int .i64 h)) rfl rfl (by kernel_rfl) (by kernel_rfl) (by kernel_rfl) (fun _ _ _ h => h) (Or.inl ⟨by rfl, ?_⟩) hH ?_
          · rintro w' ⟨s0, s1, s2, s3, s4, s5, s6, s7⟩
            go_simp
          (try simp only [List.setIfInBounds_toArray, List.set_cons_zero, List.set_cons_succ])
          refine Rt.take (i := 16) (d := 7) (v := .bool false) rfl rfl (by kernel_rfl) (by kernel_rfl) (by kernel_rfl) (fun _ _ _ h => h) (Or.inl ⟨by rfl, ?_⟩) hH ?_
          · rintro w' ⟨s0, s1, s2, s3, s4, s5, s6, s7⟩
            go_simp
          (try simp only [List.setIfInBounds_toArray, List.set_cons_zero, List.set_cons_succ])
          refine wpAnyH_done (by kernel_rfl) ?_ _
          (try simp only [Exit.then])
          go_wp2_with fail
          go_ret2
          exact ⟨by rw [eB.out]; rfl, hb0.trans (hb3.mono hb0.size)⟩
      · have hpI : ¬ (h : Int) < (m : Int) := by omega
        have eB := Lib.hid (show B = false by rw [HB.out]; exact decide_eq_false (Hend.out hp))
        go_wp2_with fail
        go_quiet (fail)
        go_wp2_with fail
        go_ret2
        exact ⟨by rw [eB.out]; rfl, hb0.trans ((Wd.below_drewN hB _).mono hb0.size)⟩
end Dt
end Go.Proofs.YtoibpbnebcoafaaGreat
