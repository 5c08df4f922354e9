/- The iterator of package runs: eachRun hands on the runs of a list, whatever the loop does with them that keeps the list. What runs.Runs does: it collects the runs that eachRun hands on. What runs.putRuns does: it writes the runs that eachRun hands on. -/
import Derived.RangeFuncNested
import Derived.RangeFuncBound
import Derived.RangeFuncCalls
import Derived.RangeFuncLeaves
import Derived.Shelf.Abstract
import Derived.Shelf.RegionOpen
import Derived.WalkKit
import Derived.OwnWalkIn
import Derived.TacticsInMore
import Derived.LoopNIn
import Derived.LoopIn
import Derived.Sort.QuietIn
import Derived.Lib.Hide
import Derived.Maps.AppendAt
import Derived.Deep.RegionHeld3
import Derived.Test.YtaoeipehpakngaaGreatDoorPb25
namespace Go.Proofs.YtaoeipehpakngaaGreatDoor
open Go.RowKit Go.Shelf
attribute [local go_sem] Oper.semAt_some
namespace Rc
abbrev Run := { p : Int × Int // Rn.Fit p.1 ∧ 1 ≤ p.2 ∧ p.2 ≤ 1000000 }
def vals (l : List Run) : Rn.Rs := l.map (·.1)
theorem vals_snoc (l : List Run) (x : Run) : vals (l ++ [x]) = vals l ++ [x.1] := by simp [vals]
def Keeps (n b : Nat) (W W' : World) : Prop := Below n W W' ∧ W'.heap[b]? = W.heap[b]?
theorem Keeps.refl (n b : Nat) (W : World) : Keeps n b W W := ⟨Below.refl _ _, rfl⟩
theorem Keeps.trans {n b : Nat} {A B C : World} (h : Keeps n b A B) (k : Keeps n b B C) : Keeps n b A C := ⟨h.1.trans k.1, k.2.trans h.2⟩
theorem Keeps.drewN {n b : Nat} {A B : World} (h : Keeps n b A B) (q : Nat) : Keeps n b A (B.drewN q) := ⟨Wd.below_drewN h.1 q, h.2⟩
theorem grown_drewN (W : World) (q : Nat) : W.grownBy (W.drewN q) none := ⟨rfl, rfl, rfl, Nat.le_refl _, fun _ _ _ => rfl⟩
theorem row_next (l : List Int) (s e : Nat) (x : Int) (hs : s ≤ e) (he : e < l.length) (h : l.take e = l.take s ++ List.replicate (e - s) x) (hx : l.getD e 0 = x) : l.take (e + 1) = l.take s ++ List.replicate (e + 1 - s) x := by
  rw [Rn.take_next l e 0 he, h, hx, show e + 1 - s = (e - s) + 1 by omega, List.replicate_succ', List.append_assoc]
def AtK (l : List Int) (k : Nat) (pre : List Run) : Prop := vals pre = Rn.runs (l.take k) ∧ (k < l.length → Rn.Apart (Rn.runs (l.take k)) (l.getD k 0))
theorem atK_zero (l : List Int) : AtK l 0 [] := ⟨rfl, fun _ => Rn.apart_nil _⟩
theorem atK_next {l : List Int} {s e : Nat} {pre : List Run} (h : AtK l s pre) (hF : Rn.Fits l) (hl : l.length ≤ 1000000) (hs : s < e) (he : e ≤ l.length) (hr : l.take e = l.take s ++ List.replicate (e - s) (l.getD s 0)) (hx : e < l.length → l.getD e 0 ≠ l.getD s 0) :
    ∃ x : Run, x.1 = (l.getD s 0, ((e : Int) - s)) ∧ AtK l e (pre ++ [x]) := by
  have hf := Wd.fit_get hF s (by omega)
  refine ⟨⟨(l.getD s 0, ((e : Int) - s)), hf, by simp only; omega, by simp only; omega⟩, rfl, ?_, ?_⟩
  · rw [vals_snoc, h.1, hr, show e - s = (e - s - 1) + 1 by omega, Rn.runs_row _ _ _ (h.2 (by omega))]
    congr 2
    simp only [Prod.mk.injEq, true_and]
    omega
  · intro hel
    have e1 : e = (e - 1) + 1 := by omega
    rw [hr, show e - s = (e - s - 1) + 1 by omega, List.replicate_succ', ← List.append_assoc]
    exact Rn.runs_apart _ _ _ (fun q => hx hel q.symm)
set_option maxRecDepth 100000 in
set_option maxHeartbeats 1000000 in
theorem each1_in (n : Nat) (hn : 1 ≤ n) (l Bl n₀ : Nat) (A : Option Addr) (m c : Nat) (zs : List Int) (hF : Rn.Fits zs) (hm : m ≤ 1000000) (J Jx : List Run → World → Prop) (W : World) (hJ : AbidesFrom W.heap.size J)
    (hY : ∀ pre x W, J pre W → pre.length < m → YieldAt Fence.wide (n - 1) Tryz.prog l #[.agg #[.int .i64 x.1.1, .int .i64 x.1.2]] W fun e W' =>
      (e = .returned (.bool true) ∧ J (pre ++ [x]) W' ∧ Keeps n₀ Bl W W') ∨ (e = .returned (.bool false) ∧ Jx (pre ++ [x]) W'))
    (hBx : Wd.Bx W Bl 25 #[.slice A m c]) (hl : m = zs.length) (hrd : Wd.Rd W n₀ .i64 A zs) (h0 : J [] W) :
    CallsIn Fence.wide n Tryz.prog 235 #[.func (.yield l) #[] #[], .pointer (some ⟨Bl, 0, none⟩)] W fun e W' => (∃ v, e = .returned v) ∧
      ((∃ ys, vals ys = Rn.runs zs ∧ J ys W') ∨ (∃ pre, True ∧ Jx pre W')) := by
  have cB := hBx.cell 0
  have cB' : W.cell? ⟨Bl, 0, none⟩ = some (.slice A m c) := cB
  clear cB
  have Hl := Lib.hid hl
  have HF := Lib.hid hF
  clear hl hF
  refine callsIn_of_wp Tryz.func235 rfl trivial ?_ rfl
  simp only [Tryz.ntmps235, List.size_toArray, List.length_cons, List.length_nil, Nat.reduceAdd, Nat.reduceSub, Array.replicate_succ, Array.replicate_zero, List.push_toArray, List.append_toArray, List.nil_append, List.cons_append]
  gi_wp2
  gi_loopw [3, 4] (fun s e wr => ∃ (k : Nat) (pre : List Run), s = .int .i64 k ∧ e = .int .i64 k ∧ k ≤ m ∧ Hid (AtK zs k pre) ∧ J pre wr ∧ Keeps n₀ Bl W wr ∧ pre.length ≤ k) (fun s _ _ => m - (intOf s).toNat)
  case atStart => exact ⟨0, [], rfl, rfl, Nat.zero_le _, Lib.hid (atK_zero zs), h0, Keeps.refl _ _ _, Nat.le_refl _⟩
  case round =>
    obtain ⟨k, pre, rfl, rfl, hk, hA, hJs, hK, hpl⟩ := hrel
    have cB : wr.cell? ⟨Bl, 0, none⟩ = some (.slice A m c) := (World.cell?_of_block hK.2).trans cB'
    by_cases hlt : k < m
    · obtain ⟨x, hx⟩ : ∃ x, x = zs.getD k 0 := ⟨_, rfl⟩
      have hkl : k < zs.length := by rw [← Hl.out]; exact hlt
      obtain ⟨b, o, rfl, hbB, hcell0⟩ := hrd k hkl
      have hcx : wr.cell? ⟨b, o + k, none⟩ = some (.int .i64 x) := by rw [hx]; exact (hK.1.cell (p := ⟨b, o + k, none⟩) hbB).trans hcell0
      have Hx := Lib.hid hx
      clear hcell0 hx
      obtain ⟨wo, rfl⟩ : ∃ wo : World, wo = wr := ⟨_, rfl⟩
      gi_wp2
      gi_loopw [4] (fun e wr => ∃ (j q : Nat), e = .int .i64 j ∧ k ≤ j ∧ j ≤ m ∧ wr = wo.drewN q ∧ Hid (zs.take j = zs.take k ++ List.replicate (j - k) x)) (fun e _ => m - (intOf e).toNat)
      case atStart => exact ⟨k, 0, rfl, Nat.le_refl _, hk, rfl, Lib.hid (by simp)⟩
      case round =>
        obtain ⟨j, q, rfl, hkj, hjm, rfl, hR⟩ := hrel
        by_cases hjl : j < m
        · have hjl' : j < zs.length := by rw [← Hl.out]; exact hjl
          obtain ⟨b', o', e', hbB', hcell1⟩ := hrd j hjl'
          simp only [Option.some.injEq, Addr.mk.injEq, and_true] at e'
          obtain ⟨rfl, rfl⟩ := e'
          obtain ⟨y, hy⟩ : ∃ y, y = zs.getD j 0 := ⟨_, rfl⟩
          have hcy : wo.cell? ⟨b, o + j, none⟩ = some (.int .i64 y) := by rw [hy]; exact (hK.1.cell (p := ⟨b, o + j, none⟩) hbB).trans hcell1
          have Hy := Lib.hid hy
          clear hcell1 hy
          have hdt : decide (j < m) = true := by simpa using hjl
          have i1 : (j : Int) < (m : Int) := by omega
          have i2 : (k : Int) < (m : Int) := by omega
          by_cases hxy : y = x
          · have hbq : (y == x) = true := by rw [hxy]; simp
            have Hxy := Lib.hid hxy
            clear hxy
            gi_wp2
            gi_quiet (fail)
            gi_wp2
            go_roundw
            case rel => exact ⟨j + 1, _, by go_num, by omega, by omega, rfl, Lib.hid (row_next zs k j x hkj hjl' hR.out (by rw [← Hy.out]; exact Hxy.out))⟩
            case measure => simp [intOf]; omega
          · have hbq : (y == x) = false := by rw [beq_eq_false_iff_ne]; exact hxy
            have hend : j < zs.length → zs.getD j 0 ≠ zs.getD k 0 := fun _ => by rw [← Hy.out, ← Hx.out]; exact hxy
            have hkj2 : k < j := by
              rcases Nat.lt_or_ge k j with h | h
              · exact h
              · exfalso
                obtain rfl : k = j := by omega
                exact hxy (by rw [Hx.out, Hy.out])
            have Hend := Lib.hid hend
            clear hend hxy
            gi_wp2
            gi_quiet (fail)
            obtain ⟨xr, hxr, hA2⟩ := atK_next hA.out HF.out (by rw [← Hl.out]; exact hm) hkj2 (by rw [← Hl.out]; exact hjm) (by rw [← Hx.out]; exact hR.out) Hend.out
            obtain ⟨fn, tmps, assign, body, hy, hRd⟩ := hY pre xr (wo.drewN (q + nq)) (hJ pre wo _ none hJs (grown_drewN _ _) (by simp)) (by omega)
            rw [hxr] at hy
            dsimp only at hy
            rw [← Hx.out] at hy
            have HA2 := Lib.hid hA2
            have Hxr := Lib.hid hxr
            clear hA2 hxr
            gi_wp2
            refine hRd.mono ?_
            rintro e W3 (⟨rfl, hJ3, hk3⟩ | ⟨rfl, hJx3⟩)
            · gi_wp2
              go_roundw
              case rel => exact ⟨j, pre ++ [xr], rfl, rfl, hjm, HA2, hJ3, (hK.drewN _).trans hk3, by simp; omega⟩
              case measure => simp [intOf]; omega
            · gi_wp2
              refine bodyPost_ret (results_none rfl _ _ _) rfl ?_
              exact ⟨⟨_, rfl⟩, .inr ⟨_, trivial, hJx3⟩⟩
        · have hend : j < zs.length → zs.getD j 0 ≠ zs.getD k 0 := fun h => by rw [← Hl.out] at h; omega
          have hkj2 : k < j := by omega
          have Hend := Lib.hid hend
          have hdf : decide (j < m) = false := by simpa using hjl
          clear hend
          gi_wp2
          gi_quiet (fail)
          obtain ⟨xr, hxr, hA2⟩ := atK_next hA.out HF.out (by rw [← Hl.out]; exact hm) hkj2 (by rw [← Hl.out]; exact hjm) (by rw [← Hx.out]; exact hR.out) Hend.out
          obtain ⟨fn, tmps, assign, body, hy, hRd⟩ := hY pre xr (wo.drewN (q + nq)) (hJ pre wo _ none hJs (grown_drewN _ _) (by simp)) (by omega)
          rw [hxr] at hy
          dsimp only at hy
          rw [← Hx.out] at hy
          have HA2 := Lib.hid hA2
          have Hxr := Lib.hid hxr
          clear hA2 hxr
          gi_wp2
          refine hRd.mono ?_
          rintro e W3 (⟨rfl, hJ3, hk3⟩ | ⟨rfl, hJx3⟩)
          · gi_wp2
            go_roundw
            case rel => exact ⟨j, pre ++ [xr], rfl, rfl, hjm, HA2, hJ3, (hK.drewN _).trans hk3, by simp; omega⟩
            case measure => simp [intOf]; omega
          · gi_wp2
            refine bodyPost_ret (results_none rfl _ _ _) rfl ?_
            exact ⟨⟨_, rfl⟩, .inr ⟨_, trivial, hJx3⟩⟩
    · gi_wp2
      go_end0
      refine ⟨⟨_, rfl⟩, .inl ⟨pre, ?_, hJs⟩⟩
      rw [hA.out.1, List.take_of_length_le (by have := Hl.out; omega)]
end Rc
attribute [local go_sem] Oper.semAt_some
namespace Rc
theorem eachRun_in (n : Nat) (A : Option Addr) (m c : Nat) (w : World) :
    CallsIn Fence.wide n Tryz.prog 194 #[.slice A m c] w fun e w' => e = .returned (.func (.func 235) #[] #[.pointer (some ⟨w.heap.size, 0, none⟩)]) ∧ w' = w.alloc (.cells #[.slice A m c] 25) := by
  refine callsIn_of_wp Tryz.func194 rfl trivial ?_ rfl
  simp only [Tryz.ntmps194, List.size_toArray, List.length_cons, List.length_nil, Nat.reduceAdd, Nat.reduceSub, Array.replicate_succ, Array.replicate_zero, List.push_toArray, List.append_toArray, List.nil_append, List.cons_append]
  gi_wp2
  go_ret
  exact ⟨rfl, rfl⟩
theorem each_stops (n : Nat) (hn : 1 ≤ n) (Bl n₀ : Nat) (A : Option Addr) (m c : Nat) (zs : List Int) (hF : Rn.Fits zs) (hm : m ≤ 1000000) (w : World) (hBl : Wd.Bx w Bl 25 #[.slice A m c]) (hn₀ : n₀ ≤ w.heap.size) (hl : m = zs.length) (hrd : Wd.Rd w n₀ .i64 A zs) :
    SeqStopsK Fence.wide n Tryz.prog 235 #[.pointer (some ⟨Bl, 0, none⟩)] (fun x : Run => #[Value.agg #[.int .i64 x.1.1, .int .i64 x.1.2]]) (Keeps n₀ Bl) (fun ys => vals ys = Rn.runs zs) (fun _ => True) m w :=
  fun l J Jx W hW hJ _ hY h0 => each1_in n hn l Bl n₀ A m c zs hF hm J Jx W hJ hY (hBl.below hBl.lt hW) hl (hrd.below (hW.mono hn₀)) h0
theorem keeps_b {n₀ Bl : Nat} {w : World} (hn : n₀ ≤ w.heap.size) (hb : Bl < w.heap.size) (W : World) (l : Nat) (o o' : Obj) (hl : w.heap.size ≤ l) (h : W.heap[l]? = some o) (h1 : o.isCells = false) (h2 : o.isWalk = false) : Keeps n₀ Bl W (W.putObj l o') :=
  ⟨belowK_b hn W l o o' hl h h1 h2, World.putObj_heap_other (by omega)⟩
theorem bx_own {β : Type} (g : Nat) (t : TypeId) (cs : Array Value) : Own (fun (_ : β) W => Wd.Bx W g t cs) := fun _ X Y row hv hg hrow => hv.grown hg (fun e => by
  obtain ⟨o, ho, hc⟩ := hrow g e.symm
  rw [show X.heap[g]? = _ from hv] at ho
  cases ho
  cases hc)
theorem keepsFrom_below {B : Nat} {W W' : World} (h : Below W.heap.size W W') : KeepsFrom B W W' := ⟨h.size, fun k _ _ hk _ => (h.block k (Array.getElem?_eq_some_iff.1 hk).1).trans hk⟩
end Rc
attribute [local go_sem] Oper.semAt_some
namespace Rc
open Nc
def PutI (w : World) (A : Option Addr) (m c : Nat) (pre : List Run) (W : World) : Prop :=
  (∃ v, Boxed W w.heap.size 32 v ∧ W.ownsRow w.heap.size 5 1 v (Rn.runB (vals pre)).length ((Rn.runB (vals pre)).map (Value.int .u8)) ∧ True) ∧ Boxed W (w.heap.size + 1) 25 (.slice A m c) ∧ Below w.heap.size w W
def PutAx (w : World) (A : Option Addr) (m c : Nat) (x : Run) (a' : Act) (W : World) : Prop :=
  ∃ g, Wd.Bx W g 144 #[.int .i64 x.1.1, .int .i64 x.1.2] ∧ w.heap.size + 1 < g ∧
    a' = { tmps := #[.slice A m c, undef, .slice none 0 0, .pointer (some ⟨w.heap.size, 0, none⟩), .pointer (some ⟨g, 0, none⟩), .slice A m c, .func (.func 235) #[] #[.pointer (some ⟨w.heap.size + 1, 0, none⟩)], .agg #[.int .i64 x.1.1, .int .i64 x.1.2], undef, undef, undef, undef, undef, undef, undef, undef, undef], defers := [] }
theorem putAx_own (w : World) (A : Option Addr) (m c : Nat) (B : Nat) (x : Run) (a' : Act) : OwnFrom B (fun (_ : Unit) W => PutAx w A m c x a' W) := fun _ X Y row ⟨g, h1, h2, h3⟩ hg hrow =>
  ⟨g, bx_own (β := Unit) g _ _ () X Y row h1 hg (fun r e => (hrow r e).2), h2, h3⟩
theorem putI_own (w : World) (A : Option Addr) (m c : Nat) (B : Nat) (hB : w.heap.size ≤ B) : OwnFrom B (PutI w A m c) :=
  OwnFrom.and (Own.from (holdsRow_own w.heap.size w.heap.size _ _ 1 (fun pre : List Run => (Rn.runB (vals pre)).length) (fun pre => (Rn.runB (vals pre)).map (Value.int .u8)) (fun _ _ => True)) _) (OwnFrom.and (Own.from (bx_own _ _ _) _) (ownFrom_below (Nat.le_refl _) hB))
theorem step_app {P : Program} (w : World) {ops : Array Oper} {o : Oper} {a : Act} {K : Act → World → Prop} {Q : Exit → Act → World → Prop} {E : Prop} (hgd : o.guard = none) (s x : Operand) (t : TypeId)
    (ho : o.op = .call { callee := .builtin .append, args := #[s, x], argTypes := #[t, t] })
    (B : Nat) (e : TypeId) (i : TypeInfo) (z : Value) (k : IntKind) (bytes : Nat) (ht : P.underlying t = some (.slice e)) (hi : P.info? e = some i) (hz : i.zero = some z)
    (hsize : i.size = 1) (hby : i.bytes = bytes) (hzs : z.cells.size = 1)
    (v : Value) (xs : List Int) (hs : a.eval s = v) (hown : w.ownsRow B e 1 v xs.length (xs.map (Value.int k)))
    (B' : Nat) (A : Option Addr) (m c : Nat) (ys : List Int) (hx : a.eval x = .slice A m c) (hm : m = ys.length) (hA : A = none → c = 0) (hr : Wd.Rd w B' k A ys)
    (hbytes : (xs.length + ys.length) * bytes ≤ 140737488355328) (h63 : xs.length + ys.length ≤ maxLen) (hB : B ≤ w.heap.size)
    (h : ∀ v' w', w'.ownsRow B e 1 v' (xs ++ ys).length ((xs ++ ys).map (Value.int k)) → w.grownBy w' v.ownBlock → K (a.put o.dst v') w') : if Region.wanted o (yielded ops a.tmps) = true then Oper.wp P o a w K Q else E := by
  rw [if_pos (by simp [Region.wanted, hgd])]
  obtain ⟨v', w', hrun, h2, h3⟩ := Wd.run_app_own (P := P) w B t o.type e i z k bytes ht hi hz hsize hby hzs v xs hown B' A m c ys hm hA hr hbytes h63 hB
  unfold Oper.wp
  simp [execOp, ho, resolve, invoke, builtin, hs, hx, hrun, Result.andThen]
  exact h v' w' h2 h3
theorem put_end {w W w2 w3 : World} {A : Option Addr} {m c : Nat} {pre : List Run} {x : Run} {v v' : Value} {g : Nat} {cs : Array Value} {ds : List Int}
    (bV : Boxed W w.heap.size 32 v) (hrow : W.ownsRow w.heap.size 5 1 v (Rn.runB (vals pre)).length ((Rn.runB (vals pre)).map (Value.int .u8))) (bS : Boxed W (w.heap.size + 1) 25 (.slice A m c)) (hB : Below w.heap.size w W)
    (bX : Wd.Bx W g 144 cs) (hg : w.heap.size + 1 < g) (hW : Below W.heap.size W w2) (hds : ds = Nm.vd (Nm.zz x.1.1) ++ Nm.vd x.1.2)
    (hown : w3.ownsRow w.heap.size 5 1 v' (Rn.runB (vals pre) ++ ds).length ((Rn.runB (vals pre) ++ ds).map (Value.int .u8))) (hgr : w2.grownBy w3 v.ownBlock) :
    Boxed w3 w.heap.size 32 v ∧ Wd.Bx w3 g 144 cs ∧ Wd.Bx (w3.setCell ⟨w.heap.size, 0, none⟩ v') g 144 cs ∧
      KeepsFrom (w.heap.size + 1 + 1) W (w3.setCell ⟨w.heap.size, 0, none⟩ v') ∧ Keeps w.heap.size (w.heap.size + 1) W (w3.setCell ⟨w.heap.size, 0, none⟩ v') ∧ PutI w A m c (pre ++ [x]) (w3.setCell ⟨w.heap.size, 0, none⟩ v') := by
  have hsz := hB.size
  have hrow2 := Wd.own_below hrow hW
  have bV2 : Wd.Bx w2 w.heap.size _ _ := (show Wd.Bx W w.heap.size _ _ from bV).below bV.lt hW
  have bS2 : Wd.Bx w2 (w.heap.size + 1) _ _ := (show Wd.Bx W (w.heap.size + 1) _ _ from bS).below bS.lt hW
  have bX2 := bX.below bX.lt hW
  have bV3 : Boxed w3 w.heap.size 32 v := bV2.grown hgr (bV2.apart hrow2 (by decide))
  have bS3 : Boxed w3 (w.heap.size + 1) 25 (.slice A m c) := bS2.grown hgr (bS2.apart hrow2 (by decide))
  have bX3 := bX2.grown hgr (bX2.apart hrow2 (by decide))
  have oth : ∀ {k : Nat} {t : TypeId} {cs : Array Value}, w.heap.size ≠ k → Wd.Bx w3 k t cs → Wd.Bx (w3.setCell ⟨w.heap.size, 0, none⟩ v') k t cs := fun {k t cs} hk h => by
    unfold Wd.Bx
    rw [heap_setCell_other w3 _ k _ (fun e => hk e.symm)]
    exact h
  have hbl : Below w.heap.size W (w3.setCell ⟨w.heap.size, 0, none⟩ v') :=
    ((hW.mono hsz).grown hgr (Nat.le_trans hsz hW.size) (fun k hk => (hrow2.lt k hk).1)).setCell (Nat.le_refl _) _
  have bS4 : Boxed (w3.setCell ⟨w.heap.size, 0, none⟩ v') (w.heap.size + 1) 25 (.slice A m c) := oth (by omega) bS3
  refine ⟨bV3, bX3, oth (by omega) bX3, ?_, ⟨hbl, ?_⟩, ⟨⟨v', bV3.set v', ?_, trivial⟩, bS4, hB.trans hbl⟩⟩
  · have k1 : KeepsFrom (w.heap.size + 1 + 1) W w2 := keepsFrom_below hW
    have k2 : KeepsOthers w2 w3 := KeepsOthers.of_grownBy hgr fun j o ej hj => by
      rcases hrow2.2 with ⟨rfl, _⟩ | ⟨g', cap, cur, rfl, _, hgb, _⟩
      · simp [Value.ownBlock] at ej
      · obtain rfl : g' = j := by simpa [Value.ownBlock] using ej
        rw [hgb] at hj; cases hj; rfl
    exact (k1.trans (k2.from _)).trans ((KeepsOthers.setCell _ _ _).from _)
  · rw [show (w3.setCell ⟨w.heap.size, 0, none⟩ v').heap[w.heap.size + 1]? = _ from bS4]
    exact Eq.symm bS
  · rw [vals_snoc, show x.1 = (x.1.1, x.1.2) from rfl, Rn.runB_snoc, ← hds]
    exact hown.kept (grownBy_setCell' w3 w.heap.size v') (.inr (bV3.not_row (by decide) hown).symm)
set_option maxRecDepth 100000 in
set_option maxHeartbeats 2000000 in
theorem putRuns_in (n : Nat) (hn : 3 ≤ n) (A : Option Addr) (m c : Nat) (l : List Int) (w : World) (hS : Wd.Sl w .i64 A m c l) (hm : m ≤ 100000) (hF : Rn.Fits l) :
    CallsIn Fence.wide n Tryz.prog 145 #[.slice A m c] w (Wd.Out w .u8 (Rn.runB (Rn.runs l))) := by
  have h1 : 1 ≤ n := by omega
  obtain ⟨i0, hi, hz0, hz1, hz2⟩ := info_parts info_u8
  refine callsIn_of_wp_marks Tryz.func145 rfl trivial ?_ rfl
  simp only [Tryz.ntmps145, List.size_toArray, List.length_cons, List.length_nil, Nat.reduceAdd, Nat.reduceSub, Array.replicate_succ, Array.replicate_zero, List.push_toArray, List.append_toArray, List.nil_append, List.cons_append]
  gi_wp2_with (refine ⟨trivial, ?_⟩; gi_at_call 194; refine (eachRun_in (n - 1) _ _ _ _).mono ?_; rintro e w' ⟨rfl, rfl⟩)
  have bO := Boxed.new w 32 (.slice none 0 0)
  have bL := Boxed.new (w.alloc (.cells #[.slice none 0 0] 32)) 25 (.slice A m c)
  rw [World.size_alloc] at bL
  have hB0 : Below w.heap.size w ((w.alloc (.cells #[.slice none 0 0] 32)).alloc (.cells #[.slice A m c] 25)) := ((Below.refl _ w).alloc (Nat.le_refl _) _).alloc (by simp) _
  have hI0 : PutI w A m c [] ((w.alloc (.cells #[.slice none 0 0] 32)).alloc (.cells #[.slice A m c] 25)) := ⟨⟨_, bO.alloc _, World.ownsRow_nil _ _ _ _, trivial⟩, bL, hB0⟩
  refine wpIn_rangeFunc_ownH rfl h1 (gf := 235) (lb := #[.pointer (some ⟨w.heap.size + 1, 0, none⟩)]) rfl trivial (enters_of Tryz.func235 (by kernel_rfl) rfl)
    (each_stops (n - 1) (by omega) (w.heap.size + 1) w.heap.size A m c l hF (by omega) _ bL (by simp; omega) hS.len (hS.rd.below hB0)) Keeps.trans (keeps_b (by simp; omega) (by simp)) (Below.refl _ _) (fun _ => rfl)
    (PutI w A m c) (fun _ _ _ => False) (putI_own w A m c _ (by simp; omega)) (fun _ _ _ _ _ hs _ _ => hs) hI0 (PutAx w A m c) (fun x a' => putAx_own w A m c _ x a') ?assign ?body ?done ?stop
  case assign =>
    rintro l' pre x W K ⟨⟨v, h1, h2, _⟩, h3, h4⟩ hK
    gi_wp2
    exact hK _ _ ((KeepsOthers.alloc _ _).from _) ⟨(Below.refl _ W).alloc h4.size _, Below.heap_alloc W _ _ h3.lt⟩ ⟨⟨v, h1.alloc _, h2.alloc _, trivial⟩, h3.alloc _, h4.alloc h4.size _⟩ ⟨W.heap.size, Wd.Bx.new _ _ _, h3.lt, rfl⟩
  case body =>
    rintro l' pre x a' W hl' ⟨r, hr⟩ ⟨⟨v, bV, hrow, _⟩, bS, hB⟩ ⟨g, bX, hg, rfl⟩ hlt
    have cV := bV.cell
    have fV := bV.frozen
    have cX0 : W.cell? ⟨g, 0, none⟩ = some (.int .i64 x.1.1) := bX.cell 0
    have cX1 : W.cell? ⟨g, 1, none⟩ = some (.int .i64 x.1.2) := bX.cell 1
    have hsz := hB.size
    clear hI0 hB0 bO bL hr hl'
    gi_wp2
    refine wpIn_region_any (by kernel_rfl) ?_
    refine Rg.any_in (Rg.noDefer_spec (by kernel_rfl)) (fun ⟨a, w', h⟩ => h) _ _ _ _ ?_
    refine wpAny_of_held (S := fun w' => w'.cell? ⟨g, 0, none⟩ = some (.int .i64 x.1.1) ∧ w'.cell? ⟨g, 1, none⟩ = some (.int .i64 x.1.2)) _ _ _ _ ?_
    change wpAnyH _ _ _ _ _ 9 (Array.replicate 9 false) _ W.drew
    have hH : W.drew.cell? ⟨g, 0, none⟩ = some (.int .i64 x.1.1) ∧ W.drew.cell? ⟨g, 1, none⟩ = some (.int .i64 x.1.2) := ⟨cX0, cX1⟩
    refine wpAnyH_take (i := 1) (v := .pointer (some ⟨g, 0, none⟩)) rfl (by kernel_rfl) (by kernel_rfl) (by kernel_rfl) (fun _ _ _ h => h) (Or.inl ⟨by rfl, ?_⟩) hH ?_
    · rintro w' ⟨s0, s1⟩
      go_simp
    refine wpAnyH_take (i := 2) (v := .int .i64 x.1.1) rfl (by kernel_rfl) (by kernel_rfl) (by kernel_rfl) (fun _ _ _ h => h) (Or.inl ⟨by rfl, ?_⟩) hH ?_
    · rintro w' ⟨s0, s1⟩
      go_simp
    refine wpAnyH_take (i := 4) (v := .pointer (some ⟨g, 1, none⟩)) rfl (by kernel_rfl) (by kernel_rfl) (by kernel_rfl) (fun _ _ _ h => h) (Or.inl ⟨by rfl, ?_⟩) hH ?_
    · rintro w' ⟨s0, s1⟩
      go_simp
    refine wpAnyH_take (i := 5) (v := .int .i64 x.1.2) rfl (by kernel_rfl) (by kernel_rfl) (by kernel_rfl) (fun _ _ _ h => h) (Or.inl ⟨by rfl, ?_⟩) hH ?_
    · rintro w' ⟨s0, s1⟩
      go_simp
    have hx3 : -9223372036854775808 ≤ x.1.2 := by have := x.2.2; omega
    have hx4 : x.1.2 ≤ 9223372036854775807 := by have := x.2.2; omega
    have hx5 : ¬ x.1.2 < 0 := by have := x.2.2; omega
    have l1 := (Nm.vd_len (Nm.zz x.1.1)).2
    have l2 := (Nm.vd_len x.1.2).2
    have l3 := Rn.runB_len (vals pre)
    have l4 : (vals pre).length ≤ 100000 := by simp only [vals, List.length_map]; omega
    refine wpAnyH_ready (rs := [0, 3]) (by kernel_rfl) (by simp) ?_
    refine AllReadyH.cons rfl (fun K hK => ?_) (AllReadyH.cons rfl (fun K hK => ?_) AllReadyH.nil)
    · go_simp
      refine hK.out _ _ hH (fun _ => ?_)
      clear hK K
      refine wpAnyH_ready (rs := [3]) (by kernel_rfl) (by simp) ?_
      refine AllReadyH.cons rfl (fun K hK => ?_) AllReadyH.nil
      go_simp
      refine (put_any none 0 0 [] x.1.1 _ (Wd.Sl.none_ _ _) (by omega) x.2.1.1 x.2.1.2).mono ?_
      rintro e w1 ⟨A1, n1, c1, rfl, hS1, hB1⟩
      have hB1' : Below W.heap.size W w1 := Wd.of_drew hB1
      have hX1 := bX.below bX.lt hB1'
      have cV1 : w1.cell? ⟨w.heap.size, 0, none⟩ = some v := (hB1'.cell (p := ⟨w.heap.size, 0, none⟩) bV.lt).trans cV
      have hn1 : n1 ≤ 10 := by rw [hS1.len]; exact (Nm.vd_len (Nm.zz x.1.1)).2
      rw [List.nil_append] at hS1
      clear hB1
      refine hK.out _ _ ⟨hX1.cell 0, hX1.cell 1⟩ (fun _ => ?_)
      clear hK K
      refine wpAnyH_ready (rs := [6]) (by kernel_rfl) (by simp) ?_
      refine AllReadyH.cons rfl (fun K hK => ?_) AllReadyH.nil
      go_simp
      refine (putLen_any A1 n1 c1 _ x.1.2 w1 hS1 (by omega) hx3 hx4).mono ?_
      rintro e w2 ⟨A2, n2, c2, rfl, hS2, hB2⟩
      have hB2' : Below W.heap.size W w2 := hB1'.trans (hB2.mono hB1'.size)
      have hX2 := bX.below bX.lt hB2'
      have cV2 : w2.cell? ⟨w.heap.size, 0, none⟩ = some v := (hB2'.cell (p := ⟨w.heap.size, 0, none⟩) bV.lt).trans cV
      rw [if_neg hx5] at hS2
      clear hB2 hX1 cV1
      refine hK.out _ _ ⟨hX2.cell 0, hX2.cell 1⟩ (fun _ => ?_)
      clear hK K
      refine wpAnyH_ready (rs := [7]) (by kernel_rfl) (by simp) ?_
      refine AllReadyH.cons rfl (fun K hK => ?_) AllReadyH.nil
      refine step_app w2 rfl (.tmp 8) (.tmp 14) 32 rfl w.heap.size 5 i0 _ .u8 1 Tryz.underlying32 hi hz0 hz1 hz2 rfl v _ rfl (Wd.own_below hrow hB2') w2.heap.size A2 n2 c2 _ rfl hS2.len hS2.nil hS2.rd (by simp only [List.length_append]; omega) (by simp only [List.length_append]; unfold maxLen; omega) (Nat.le_trans hsz hB2'.size) ?_
      intro v' w3 hown3 hg3
      obtain ⟨bV3, bX3, bX4, f1, f2, f3⟩ := put_end (x := x) bV hrow bS hB bX hg hB2' rfl hown3 hg3
      have c3 := bV3.cell
      have c4 := bV3.frozen
      obtain ⟨A3, n3, k3, rfl, hS3⟩ := Wd.Sl.of_own hown3
      refine hK.out _ _ ⟨bX3.cell 0, bX3.cell 1⟩ (fun _ => ?_)
      clear hK K
      refine wpAnyH_ready (rs := [8]) (by kernel_rfl) (by simp) ?_
      refine AllReadyH.cons rfl (fun K hK => ?_) AllReadyH.nil
      go_simp
      refine hK.out _ _ ⟨bX4.cell 0, bX4.cell 1⟩ (fun _ => ?_)
      refine wpAnyH_done (by kernel_rfl) ?_ _
      exact ⟨by simpa using f1, f2, f3⟩
    · go_simp
      refine (put_any none 0 0 [] x.1.1 _ (Wd.Sl.none_ _ _) (by omega) x.2.1.1 x.2.1.2).mono ?_
      rintro e w1 ⟨A1, n1, c1, rfl, hS1, hB1⟩
      have hB1' : Below W.heap.size W w1 := Wd.of_drew hB1
      have hX1 := bX.below bX.lt hB1'
      have cV1 : w1.cell? ⟨w.heap.size, 0, none⟩ = some v := (hB1'.cell (p := ⟨w.heap.size, 0, none⟩) bV.lt).trans cV
      have hn1 : n1 ≤ 10 := by rw [hS1.len]; exact (Nm.vd_len (Nm.zz x.1.1)).2
      rw [List.nil_append] at hS1
      clear hB1
      refine hK.out _ _ ⟨hX1.cell 0, hX1.cell 1⟩ (fun _ => ?_)
      clear hK K
      refine wpAnyH_ready (rs := [0, 6]) (by kernel_rfl) (by simp) ?_
      refine AllReadyH.cons rfl (fun K hK => ?_) (AllReadyH.cons rfl (fun K hK => ?_) AllReadyH.nil)
      · go_simp
        refine hK.out _ _ ⟨hX1.cell 0, hX1.cell 1⟩ (fun _ => ?_)
        clear hK K
        refine wpAnyH_ready (rs := [6]) (by kernel_rfl) (by simp) ?_
        refine AllReadyH.cons rfl (fun K hK => ?_) AllReadyH.nil
        go_simp
        refine (putLen_any A1 n1 c1 _ x.1.2 w1 hS1 (by omega) hx3 hx4).mono ?_
        rintro e w2 ⟨A2, n2, c2, rfl, hS2, hB2⟩
        have hB2' : Below W.heap.size W w2 := hB1'.trans (hB2.mono hB1'.size)
        have hX2 := bX.below bX.lt hB2'
        have cV2 : w2.cell? ⟨w.heap.size, 0, none⟩ = some v := (hB2'.cell (p := ⟨w.heap.size, 0, none⟩) bV.lt).trans cV
        rw [if_neg hx5] at hS2
        clear hB2 hX1 cV1
        refine hK.out _ _ ⟨hX2.cell 0, hX2.cell 1⟩ (fun _ => ?_)
        clear hK K
        refine wpAnyH_ready (rs := [7]) (by kernel_rfl) (by simp) ?_
        refine AllReadyH.cons rfl (fun K hK => ?_) AllReadyH.nil
        refine step_app w2 rfl (.tmp 8) (.tmp 14) 32 rfl w.heap.size 5 i0 _ .u8 1 Tryz.underlying32 hi hz0 hz1 hz2 rfl v _ rfl (Wd.own_below hrow hB2') w2.heap.size A2 n2 c2 _ rfl hS2.len hS2.nil hS2.rd (by simp only [List.length_append]; omega) (by simp only [List.length_append]; unfold maxLen; omega) (Nat.le_trans hsz hB2'.size) ?_
        intro v' w3 hown3 hg3
        obtain ⟨bV3, bX3, bX4, f1, f2, f3⟩ := put_end (x := x) bV hrow bS hB bX hg hB2' rfl hown3 hg3
        have c3 := bV3.cell
        have c4 := bV3.frozen
        obtain ⟨A3, n3, k3, rfl, hS3⟩ := Wd.Sl.of_own hown3
        refine hK.out _ _ ⟨bX3.cell 0, bX3.cell 1⟩ (fun _ => ?_)
        clear hK K
        refine wpAnyH_ready (rs := [8]) (by kernel_rfl) (by simp) ?_
        refine AllReadyH.cons rfl (fun K hK => ?_) AllReadyH.nil
        go_simp
        refine hK.out _ _ ⟨bX4.cell 0, bX4.cell 1⟩ (fun _ => ?_)
        refine wpAnyH_done (by kernel_rfl) ?_ _
        exact ⟨by simpa using f1, f2, f3⟩
      · go_simp
        refine (putLen_any A1 n1 c1 _ x.1.2 w1 hS1 (by omega) hx3 hx4).mono ?_
        rintro e w2 ⟨A2, n2, c2, rfl, hS2, hB2⟩
        have hB2' : Below W.heap.size W w2 := hB1'.trans (hB2.mono hB1'.size)
        have hX2 := bX.below bX.lt hB2'
        have cV2 : w2.cell? ⟨w.heap.size, 0, none⟩ = some v := (hB2'.cell (p := ⟨w.heap.size, 0, none⟩) bV.lt).trans cV
        rw [if_neg hx5] at hS2
        clear hB2 hX1 cV1
        refine hK.out _ _ ⟨hX2.cell 0, hX2.cell 1⟩ (fun _ => ?_)
        clear hK K
        refine wpAnyH_ready (rs := [0]) (by kernel_rfl) (by simp) ?_
        refine AllReadyH.cons rfl (fun K hK => ?_) AllReadyH.nil
        go_simp
        refine hK.out _ _ ⟨hX2.cell 0, hX2.cell 1⟩ (fun _ => ?_)
        clear hK K
        refine wpAnyH_ready (rs := [7]) (by kernel_rfl) (by simp) ?_
        refine AllReadyH.cons rfl (fun K hK => ?_) AllReadyH.nil
        refine step_app w2 rfl (.tmp 8) (.tmp 14) 32 rfl w.heap.size 5 i0 _ .u8 1 Tryz.underlying32 hi hz0 hz1 hz2 rfl v _ rfl (Wd.own_below hrow hB2') w2.heap.size A2 n2 c2 _ rfl hS2.len hS2.nil hS2.rd (by simp only [List.length_append]; omega) (by simp only [List.length_append]; unfold maxLen; omega) (Nat.le_trans hsz hB2'.size) ?_
        intro v' w3 hown3 hg3
        obtain ⟨bV3, bX3, bX4, f1, f2, f3⟩ := put_end (x := x) bV hrow bS hB bX hg hB2' rfl hown3 hg3
        have c3 := bV3.cell
        have c4 := bV3.frozen
        obtain ⟨A3, n3, k3, rfl, hS3⟩ := Wd.Sl.of_own hown3
        refine hK.out _ _ ⟨bX3.cell 0, bX3.cell 1⟩ (fun _ => ?_)
        clear hK K
        refine wpAnyH_ready (rs := [8]) (by kernel_rfl) (by simp) ?_
        refine AllReadyH.cons rfl (fun K hK => ?_) AllReadyH.nil
        go_simp
        refine hK.out _ _ ⟨bX4.cell 0, bX4.cell 1⟩ (fun _ => ?_)
        refine wpAnyH_done (by kernel_rfl) ?_ _
        exact ⟨by simpa using f1, f2, f3⟩
  case done =>
    rintro D ys W hD hys ⟨⟨v, bV, hrow, _⟩, bS, hB⟩ hK
    have cV := bV.cell
    gi_wp2
    refine ⟨by simp, .inl ⟨_, _, rfl, run_takeDeferred hK, ?_⟩⟩
    have hrow' := ownsRow_putObj hrow (.deferred none) hK rfl
    rw [hys] at hrow'
    obtain ⟨A', n', c', rfl, hSr⟩ := Wd.Sl.of_own hrow'
    exact ⟨_, results_tmp rfl _ _ _, ⟨_, _, _, rfl, hSr, hB.trans (belowK_b (w := w) (Nat.le_refl _) W D _ _ (by simp at hD; omega) hK rfl rfl)⟩⟩
  case stop =>
    rintro D c pre W _ _ h _
    exact h.elim
theorem putRuns_any (A : Option Addr) (m c : Nat) (l : List Int) (w : World) (hS : Wd.Sl w .i64 A m c l) (hm : m ≤ 100000) (hF : Rn.Fits l) :
    Calls Tryz.prog 145 #[.slice A m c] w (Wd.Out w .u8 (Rn.runB (Rn.runs l))) := (callsIn_wide (n := 3)).1 (putRuns_in 3 (by omega) A m c l w hS hm hF)
end Rc
end Go.Proofs.YtaoeipehpakngaaGreatDoor
