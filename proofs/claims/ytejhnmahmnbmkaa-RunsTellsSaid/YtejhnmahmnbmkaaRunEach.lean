/- The iterator of package runs: eachRun hands on the runs of a list, whatever the loop does with them that keeps the list. -/
import Derived.RangeFuncNested
import Derived.RangeFuncBound
import Derived.RangeFuncCalls
import Derived.RangeFuncLeaves
import Derived.Shelf.Abstract
import Derived.Shelf.RegionOpen
import Derived.WalkKit
import Derived.OwnWalkIn
import Derived.TacticsInMore
import Derived.LoopNIn
import Derived.LoopIn
import Derived.Sort.QuietIn
import Derived.Lib.Hide
import Derived.Test.YtejhnmahmnbmkaaRunNums
namespace Go.Proofs.Ytejhnmahmnbmkaa
open Go.RowKit Go.Shelf
attribute [local go_sem] Oper.semAt_some
namespace Rc

/-- A run as it is handed on: the value fits, the count is from 1 to 1,000,000. -/
abbrev Run := { p : Int × Int // Rn.Fit p.1 ∧ 1 ≤ p.2 ∧ p.2 ≤ 1000000 }
def vals (l : List Run) : Rn.Rs := l.map (·.1)
theorem vals_snoc (l : List Run) (x : Run) : vals (l ++ [x]) = vals l ++ [x.1] := by simp [vals]
/-- What a round that goes on keeps: what lay below n, and block b. -/
def Keeps (n b : Nat) (W W' : World) : Prop := Below n W W' ∧ W'.heap[b]? = W.heap[b]?
theorem Keeps.refl (n b : Nat) (W : World) : Keeps n b W W := ⟨Below.refl _ _, rfl⟩
theorem Keeps.trans {n b : Nat} {A B C : World} (h : Keeps n b A B) (k : Keeps n b B C) : Keeps n b A C := ⟨h.1.trans k.1, k.2.trans h.2⟩
theorem Keeps.drewN {n b : Nat} {A B : World} (h : Keeps n b A B) (q : Nat) : Keeps n b A (B.drewN q) := ⟨Wd.below_drewN h.1 q, h.2⟩
theorem grown_drewN (W : World) (q : Nat) : W.grownBy (W.drewN q) none := ⟨rfl, rfl, rfl, Nat.le_refl _, fun _ _ _ => rfl⟩

/-- The numbers from place s to place e are all x. -/
theorem row_next (l : List Int) (s e : Nat) (x : Int) (hs : s ≤ e) (he : e < l.length) (h : l.take e = l.take s ++ List.replicate (e - s) x) (hx : l.getD e 0 = x) : l.take (e + 1) = l.take s ++ List.replicate (e + 1 - s) x := by
  rw [Rn.take_next l e 0 he, h, hx, show e + 1 - s = (e - s) + 1 by omega, List.replicate_succ', List.append_assoc]

/-- How far the runs have come: all numbers ahead of place k, and the number there is another one. -/
def AtK (l : List Int) (k : Nat) (pre : List Run) : Prop := vals pre = Rn.runs (l.take k) ∧ (k < l.length → Rn.Apart (Rn.runs (l.take k)) (l.getD k 0))
theorem atK_zero (l : List Int) : AtK l 0 [] := ⟨rfl, fun _ => Rn.apart_nil _⟩
theorem atK_next {l : List Int} {s e : Nat} {pre : List Run} (h : AtK l s pre) (hF : Rn.Fits l) (hl : l.length ≤ 1000000) (hs : s < e) (he : e ≤ l.length) (hr : l.take e = l.take s ++ List.replicate (e - s) (l.getD s 0)) (hx : e < l.length → l.getD e 0 ≠ l.getD s 0) :
    ∃ x : Run, x.1 = (l.getD s 0, ((e : Int) - s)) ∧ AtK l e (pre ++ [x]) := by
  have hf := Wd.fit_get hF s (by omega)
  refine ⟨⟨(l.getD s 0, ((e : Int) - s)), hf, by simp only; omega, by simp only; omega⟩, rfl, ?_, ?_⟩
  · rw [vals_snoc, h.1, hr, show e - s = (e - s - 1) + 1 by omega, Rn.runs_row _ _ _ (h.2 (by omega))]
    congr 2
    simp only [Prod.mk.injEq, true_and]
    omega
  · intro hel
    have e1 : e = (e - 1) + 1 := by omega
    rw [hr, show e - s = (e - s - 1) + 1 by omega, List.replicate_succ', ← List.append_assoc]
    exact Rn.runs_apart _ _ _ (fun q => hx hel q.symm)

set_option maxRecDepth 100000 in
set_option maxHeartbeats 1000000 in
theorem each1_in (n : Nat) (hn : 1 ≤ n) (l Bl n₀ : Nat) (A : Option Addr) (m c : Nat) (zs : List Int) (hF : Rn.Fits zs) (hm : m ≤ 1000000) (J Jx : List Run → World → Prop) (W : World) (hJ : AbidesFrom W.heap.size J) 
    (hY : ∀ pre x W, J pre W → pre.length < m → YieldAt Fence.wide (n - 1) Try.prog l #[.agg #[.int .i64 x.1.1, .int .i64 x.1.2]] W fun e W' =>
      (e = .returned (.bool true) ∧ J (pre ++ [x]) W' ∧ Keeps n₀ Bl W W') ∨ (e = .returned (.bool false) ∧ Jx (pre ++ [x]) W'))
    (hBx : Wd.Bx W Bl 22 #[.slice A m c]) (hl : m = zs.length) (hrd : Wd.Rd W n₀ .i64 A zs) (h0 : J [] W) :
    CallsIn Fence.wide n Try.prog 38 #[.func (.yield l) #[] #[], .pointer (some ⟨Bl, 0, none⟩)] W fun e W' => (∃ v, e = .returned v) ∧
      ((∃ ys, vals ys = Rn.runs zs ∧ J ys W') ∨ (∃ pre, True ∧ Jx pre W')) := by
  have cB := hBx.cell 0
  have cB' : W.cell? ⟨Bl, 0, none⟩ = some (.slice A m c) := cB
  clear cB
  have Hl := Lib.hid hl
  have HF := Lib.hid hF
  clear hl hF
  refine callsIn_of_wp Try.func38 rfl trivial ?_ rfl
  simp only [Try.ntmps38, List.size_toArray, List.length_cons, List.length_nil, Nat.reduceAdd, Nat.reduceSub, Array.replicate_succ, Array.replicate_zero, List.push_toArray, List.append_toArray, List.nil_append, List.cons_append]
  gi_wp2
  gi_loopw [3, 4] (fun s e wr => ∃ (k : Nat) (pre : List Run), s = .int .i64 k ∧ e = .int .i64 k ∧ k ≤ m ∧ Hid (AtK zs k pre) ∧ J pre wr ∧ Keeps n₀ Bl W wr ∧ pre.length ≤ k) (fun s _ _ => m - (intOf s).toNat)
  case atStart => exact ⟨0, [], rfl, rfl, Nat.zero_le _, Lib.hid (atK_zero zs), h0, Keeps.refl _ _ _, Nat.le_refl _⟩
  case round =>
    obtain ⟨k, pre, rfl, rfl, hk, hA, hJs, hK, hpl⟩ := hrel
    have cB : wr.cell? ⟨Bl, 0, none⟩ = some (.slice A m c) := (World.cell?_of_block hK.2).trans cB'
    by_cases hlt : k < m
    · obtain ⟨x, hx⟩ : ∃ x, x = zs.getD k 0 := ⟨_, rfl⟩
      have hkl : k < zs.length := by rw [← Hl.out]; exact hlt
      obtain ⟨b, o, rfl, hbB, hcell0⟩ := hrd k hkl
      have hcx : wr.cell? ⟨b, o + k, none⟩ = some (.int .i64 x) := by rw [hx]; exact (hK.1.cell (p := ⟨b, o + k, none⟩) hbB).trans hcell0
      have Hx := Lib.hid hx
      clear hcell0 hx
      obtain ⟨wo, rfl⟩ : ∃ wo : World, wo = wr := ⟨_, rfl⟩
      gi_wp2
      gi_loopw [4] (fun e wr => ∃ (j q : Nat), e = .int .i64 j ∧ k ≤ j ∧ j ≤ m ∧ wr = wo.drewN q ∧ Hid (zs.take j = zs.take k ++ List.replicate (j - k) x)) (fun e _ => m - (intOf e).toNat)
      case atStart => exact ⟨k, 0, rfl, Nat.le_refl _, hk, rfl, Lib.hid (by simp)⟩
      case round =>
        obtain ⟨j, q, rfl, hkj, hjm, rfl, hR⟩ := hrel
        by_cases hjl : j < m
        · have hjl' : j < zs.length := by rw [← Hl.out]; exact hjl
          obtain ⟨b', o', e', hbB', hcell1⟩ := hrd j hjl'
          simp only [Option.some.injEq, Addr.mk.injEq, and_true] at e'
          obtain ⟨rfl, rfl⟩ := e'
          obtain ⟨y, hy⟩ : ∃ y, y = zs.getD j 0 := ⟨_, rfl⟩
          have hcy : wo.cell? ⟨b, o + j, none⟩ = some (.int .i64 y) := by rw [hy]; exact (hK.1.cell (p := ⟨b, o + j, none⟩) hbB).trans hcell1
          have Hy := Lib.hid hy
          clear hcell1 hy
          have hdt : decide (j < m) = true := by simpa using hjl
          have i1 : (j : Int) < (m : Int) := by omega
          have i2 : (k : Int) < (m : Int) := by omega
          by_cases hxy : y = x
          · have hbq : (y == x) = true := by rw [hxy]; simp
            have Hxy := Lib.hid hxy
            clear hxy
            gi_wp2
            gi_quiet (fail)
            gi_wp2
            go_roundw
            case rel => exact ⟨j + 1, _, by go_num, by omega, by omega, rfl, Lib.hid (row_next zs k j x hkj hjl' hR.out (by rw [← Hy.out]; exact Hxy.out))⟩
            case measure => simp [intOf]; omega
          · have hbq : (y == x) = false := by rw [beq_eq_false_iff_ne]; exact hxy
            have hend : j < zs.length → zs.getD j 0 ≠ zs.getD k 0 := fun _ => by rw [← Hy.out, ← Hx.out]; exact hxy
            have hkj2 : k < j := by
              rcases Nat.lt_or_ge k j with h | h
              · exact h
              · exfalso
                obtain rfl : k = j := by omega
                exact hxy (by rw [Hx.out, Hy.out])
            have Hend := Lib.hid hend
            clear hend hxy
            gi_wp2
            gi_quiet (fail)
            obtain ⟨xr, hxr, hA2⟩ := atK_next hA.out HF.out (by rw [← Hl.out]; exact hm) hkj2 (by rw [← Hl.out]; exact hjm) (by rw [← Hx.out]; exact hR.out) Hend.out
            obtain ⟨fn, tmps, assign, body, hy, hRd⟩ := hY pre xr (wo.drewN (q + nq)) (hJ pre wo _ none hJs (grown_drewN _ _) (by simp)) (by omega)
            rw [hxr] at hy
            dsimp only at hy
            rw [← Hx.out] at hy
            have HA2 := Lib.hid hA2
            have Hxr := Lib.hid hxr
            clear hA2 hxr
            gi_wp2
            refine hRd.mono ?_
            rintro e W3 (⟨rfl, hJ3, hk3⟩ | ⟨rfl, hJx3⟩)
            · gi_wp2
              go_roundw
              case rel => exact ⟨j, pre ++ [xr], rfl, rfl, hjm, HA2, hJ3, (hK.drewN _).trans hk3, by simp; omega⟩
              case measure => simp [intOf]; omega
            · gi_wp2
              refine bodyPost_ret (results_none rfl _ _ _) rfl ?_
              exact ⟨⟨_, rfl⟩, .inr ⟨_, trivial, hJx3⟩⟩
        · have hend : j < zs.length → zs.getD j 0 ≠ zs.getD k 0 := fun h => by rw [← Hl.out] at h; omega
          have hkj2 : k < j := by omega
          have Hend := Lib.hid hend
          have hdf : decide (j < m) = false := by simpa using hjl
          clear hend
          gi_wp2
          gi_quiet (fail)
          obtain ⟨xr, hxr, hA2⟩ := atK_next hA.out HF.out (by rw [← Hl.out]; exact hm) hkj2 (by rw [← Hl.out]; exact hjm) (by rw [← Hx.out]; exact hR.out) Hend.out
          obtain ⟨fn, tmps, assign, body, hy, hRd⟩ := hY pre xr (wo.drewN (q + nq)) (hJ pre wo _ none hJs (grown_drewN _ _) (by simp)) (by omega)
          rw [hxr] at hy
          dsimp only at hy
          rw [← Hx.out] at hy
          have HA2 := Lib.hid hA2
          have Hxr := Lib.hid hxr
          clear hA2 hxr
          gi_wp2
          refine hRd.mono ?_
          rintro e W3 (⟨rfl, hJ3, hk3⟩ | ⟨rfl, hJx3⟩)
          · gi_wp2
            go_roundw
            case rel => exact ⟨j, pre ++ [xr], rfl, rfl, hjm, HA2, hJ3, (hK.drewN _).trans hk3, by simp; omega⟩
            case measure => simp [intOf]; omega
          · gi_wp2
            refine bodyPost_ret (results_none rfl _ _ _) rfl ?_
            exact ⟨⟨_, rfl⟩, .inr ⟨_, trivial, hJx3⟩⟩
    · gi_wp2
      go_end0
      refine ⟨⟨_, rfl⟩, .inl ⟨pre, ?_, hJs⟩⟩
      rw [hA.out.1, List.take_of_length_le (by have := Hl.out; omega)]
end Rc
end Go.Proofs.Ytejhnmahmnbmkaa
