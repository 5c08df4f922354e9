/- What the reference functions of layer 3 do: Deltas. -/
import Derived.Test.YtejhnmahmnbmkaaRunRefA
import Derived.Test.YtejhnmahmnbmkaaRunPut
import Derived.Test.YtejhnmahmnbmkaaNumRef
import Derived.Deep.RegionHeld3
import Derived.Deep.DeepCutAuto
namespace Go.Proofs.Ytejhnmahmnbmkaa
open Go.RowKit
namespace Rc
open Nc

theorem cell_grown {w w1 : World} {row : Option Nat} {b i : Nat} {v : Value} (hg : w.grownBy w1 row) (hb : b < w.heap.size) (hn : some b ≠ row) (hc : w.cell? ⟨b, i, none⟩ = some v) : w1.cell? ⟨b, i, none⟩ = some v :=
  (World.cell?_of_block (hg.block b hb hn)).trans hc

set_option maxHeartbeats 2000000 in
theorem refDeltas_any (A : Option Addr) (m c : Nat) (l : List Int) (w : World) (hS : Wd.Sl w .i64 A m c l) (hm : m ≤ 1000000) (hF : Rn.Fits l) :
    Calls Try.prog 17 #[.slice A m c] w (Wd.Out w .i64 (Rn.deltas l)) := by
  obtain ⟨i0, hi, hz0, hz1, hz2⟩ := info_parts info_int
  have hl := hS.len
  have hdl := Rn.deltas_len l
  have Hd := Lib.hid (Rn.deltas_get l)
  generalize Rn.deltas l = d at *
  have Hdl := Lib.hid hdl
  have Hl := Lib.hid hl
  have HF := Lib.hid hF
  have hcap := hS.cap
  clear hl hdl hF
  go_enter Try.func17, Try.ntmps17
  go_wp2_with fail
  go_loopw [3, 4] (fun v i wr => ∃ (k : Nat) (ys : List Int), i = .int .i64 k ∧ k ≤ m ∧ Hid (ys = d.take k) ∧ wr.ownsRow w.heap.size 3 1 v ys.length (ys.map (Value.int .i64)) ∧ Below w.heap.size w wr) (fun _ i _ => m - (intOf i).toNat)
  case atStart => exact ⟨0, [], rfl, Nat.zero_le _, Lib.hid rfl, World.ownsRow_nil _ _ _ _, Below.refl _ _⟩
  case round =>
    obtain ⟨k, ys, rfl, hk, hp, hown, hB⟩ := hrel
    by_cases hlt : k < m
    · have hkl : k < l.length := by rw [← Hl.out]; exact hlt
      have hkd : k < d.length := by rw [Hdl.out]; exact hkl
      obtain ⟨b, o, rfl, hbB, hcell0⟩ := hS.rd k hkl
      have hcell := (hB.cell (p := ⟨b, o + k, none⟩) hbB).trans hcell0
      have hd := Hd.out k hkl
      have htk := Rn.take_next d k 0 hkd
      rw [← hp.out, hd] at htk
      obtain ⟨x, hx⟩ : ∃ x, x = l.getD k 0 := ⟨_, rfl⟩
      have hfx : Rn.Fit x := by rw [hx]; exact Wd.fit_get HF.out k hkl
      rw [← hx] at hcell htk
      have hyl : ys.length ≤ 1000000 := by rw [hp.out, List.length_take]; omega
      have i1 : (k : Int) < (m : Int) := by omega
      have hsz := hB.size
      obtain ⟨wo, rfl⟩ : ∃ wo : World, wo = wr := ⟨_, rfl⟩
      clear hcell0 hd hx
      by_cases hk0 : 0 < k
      · have hd0 : ((k : Int) == 0) = false := by rw [beq_eq_false_iff_ne]; omega
        obtain ⟨b', o', e', _, d0⟩ := hS.rd (k - 1) (by omega)
        simp only [Option.some.injEq, Addr.mk.injEq, and_true] at e'
        obtain ⟨rfl, rfl⟩ := e'
        have d1 := (hB.cell (p := ⟨b, o + (k - 1), none⟩) hbB).trans d0
        have hpv : Rn.prev l k = l.getD (k - 1) 0 := by unfold Rn.prev; rw [if_neg (by omega)]
        rw [hpv] at htk
        obtain ⟨y, hy⟩ : ∃ y, y = l.getD (k - 1) 0 := ⟨_, rfl⟩
        rw [← hy] at d1 htk
        rw [Wd.wr64] at htk
        have Ht := Lib.hid htk
        have hw1 : IntKind.i64.wrap ((k : Int) - 1) = (k : Int) - 1 := IntWalk.i64_in _ (by omega)
        have hw2 : IntKind.i64.wrap (x - y) = wrap64 (x - y) := by rw [Wd.wrap_wr, Wd.wr64]
        have h01 : (0 : Int) ≤ (k : Int) - 1 := by omega
        have hl1 : (k : Int) - 1 < (m : Int) := by omega
        have ht1 : ((k : Int) - 1).toNat = k - 1 := by omega
        have hk2 : (0 : Int) ≤ (k : Int) := by omega
        have hk3 : (1 : Int) ≤ (k : Int) := by omega
        have hk4 : 1 ≤ k := by omega
        have hk5 : (k : Int) < (m : Int) + 1 := by omega
        have hk6 : k < m + 1 := by omega
        have hk7 : (k : Int) ≤ (m : Int) := by omega
        clear hy d0 htk hpv
        go_upto_region 7 with fail
        have hsb : b < (wo.alloc (.cells #[.int .i64 (wrap64 (x - y))] 3)).drew.heap.size := by have := hB.size; simp; omega
        have hnb : some b ≠ Value.ownBlock u3 := fun e => by have := (hown.lt b e.symm).1; omega
        have ha : (wo.alloc (.cells #[.int .i64 (wrap64 (x - y))] 3)).drew.ownsRow w.heap.size 3 1 u3 ys.length (ys.map (Value.int .i64)) := hown.alloc _
        have hr : Wd.Rd (wo.alloc (.cells #[.int .i64 (wrap64 (x - y))] 3)).drew (wo.heap.size + 1) .i64 (some ⟨wo.heap.size, 0, none⟩) [wrap64 (x - y)] := Wd.Rd.lit wo .i64 [wrap64 (x - y)] _ _ rfl
        have hBa : Below w.heap.size w (wo.alloc (.cells #[.int .i64 (wrap64 (x - y))] 3)).drew := (hB.alloc hsz _).drew
        have hlo := hown.lt
        have ec : (wo.alloc (.cells #[.int .i64 (wrap64 (x - y))] 3)).drew.cell? ⟨b, o + k, none⟩ = some (.int .i64 x) := (World.cell?_alloc_lt wo _ ⟨b, o + k, none⟩ (by have := hB.size; simp; omega)).trans hcell
        have ed : (wo.alloc (.cells #[.int .i64 (wrap64 (x - y))] 3)).drew.cell? ⟨b, o + (k - 1), none⟩ = some (.int .i64 y) := (World.cell?_alloc_lt wo _ ⟨b, o + (k - 1), none⟩ (by have := hB.size; simp; omega)).trans d1
        have Hlo := Lib.hid hlo
        have Hec := Lib.hid ec
        have Hed := Lib.hid ed
        have Hnb := Lib.hid hnb
        have hal := hBa.size
        clear hlo ec ed hnb
        go_region_held3 (fun w' => w'.cell? ⟨b, o + k, none⟩ = some (.int .i64 x) ∧ w'.cell? ⟨b, o + (k - 1), none⟩ = some (.int .i64 y)) (first | exact hc2 | go_keep) (first | (refine step_app _ rfl (.tmp 19) (.tmp 30) 22 rfl w.heap.size 3 i0 _ .i64 8 Try.underlying22 hi hz0 hz1 hz2 rfl _ ys rfl ha (wo.heap.size + 1) _ 1 1 [wrap64 (x - y)] rfl rfl (by simp) hr (by simp; omega) (by simp [maxLen]; omega) hal ?_; intro v' w1 hown1 hg1; have hb1 := hBa.grown hg1 hal (fun g hg => (Hlo.out g hg).1); have hc2 := And.intro (cell_grown hg1 hsb Hnb.out Hec.out) (cell_grown hg1 hsb Hnb.out Hed.out)))
        go_wp2_with fail
        go_roundw
        case rel => exact ⟨k + 1, _, by go_num, by omega, Lib.hid Ht.out.symm, hown1, hb1⟩
        case measure => simp [intOf]; omega
      · have hd0 : ((k : Int) == 0) = true := by rw [beq_iff_eq]; omega
        have hpv : Rn.prev l k = 0 := by unfold Rn.prev; rw [if_pos (by omega)]
        rw [hpv, Rn.wr_zero hfx] at htk
        have Ht := Lib.hid htk
        have hc0 : wo.cell? ⟨b, o, none⟩ = some (.int .i64 x) := by
          rw [show k = 0 by omega, Nat.add_zero] at hcell
          exact hcell
        clear htk hpv hcell
        have hm0 : 0 < m := by omega
        go_wp2_with (at_builtin; refine Wd.wpList_app _ rfl (.tmp 13) (.tmp 17) 22 rfl w.heap.size 3 i0 _ .i64 8 Try.underlying22 hi hz0 hz1 hz2 rfl _ ys rfl (hown.alloc _) (wo.heap.size + 1) _ 1 1 [x] rfl rfl (by simp) (Wd.Rd.lit wo .i64 [x] _ _ rfl) (by simp; omega) (by simp [maxLen]; omega) (by simp; omega) ?_; intro v' w1 hown1 hg1)
        go_roundw
        case rel => exact ⟨k + 1, ys ++ [x], by go_num, by omega, Lib.hid Ht.out.symm, hown1, (hB.alloc hsz _).grown hg1 (by simp; omega) (fun g hg => (hown.lt g hg).1)⟩
        case measure => simp [intOf]; omega
    · go_wp2_with fail
      go_ret
      have e := hp.out
      rw [List.take_of_length_le (by have := Hl.out; have := Hdl.out; omega)] at e
      rw [e] at hown
      exact Wd.Out.of_own hown hB
end Rc
end Go.Proofs.Ytejhnmahmnbmkaa
