/- What the functions of package runs over lists of integers do: Deltas, Sums, putPlain, putDeltas, appendRun. The iterator of package runs: eachRun hands on the runs of a list, whatever the loop does with them that keeps the list. What runs.Runs does: it collects the runs that eachRun hands on. -/
import Derived.WalkKit
import Derived.WalkSpells
import Derived.Lib.Hide
import Derived.RangeFuncNested
import Derived.RangeFuncBound
import Derived.RangeFuncCalls
import Derived.RangeFuncLeaves
import Derived.Shelf.Abstract
import Derived.Shelf.RegionOpen
import Derived.OwnWalkIn
import Derived.TacticsInMore
import Derived.LoopNIn
import Derived.LoopIn
import Derived.Sort.QuietIn
import Derived.Maps.AppendAt
import Derived.Test.YtaoeipehpakngaaGreatDoorProg
import Derived.Test.YtaoeipehpakngaaGreatDoorPa25
import Derived.Test.YtaoeipehpakngaaGreatDoorPa08
namespace Go.Proofs.YtaoeipehpakngaaGreatDoor
set_option maxRecDepth 20000
open Go.RowKit
namespace Rc
open Nc
theorem info_int : (Tryz.prog.info? 3).map (fun i => (i.zero, i.size, i.bytes)) = some (some (.int .i64 0), 1, 8) := by kernel_rfl
def FillI (w : World) (d : List Int) (k : Nat) (wr : World) : Prop := Wd.Row wr w.heap.size .i64 3 (Wd.fill d k) ∧ Below w.heap.size w wr
theorem FillI.step {w wr : World} {d : List Int} {k : Nat} (h : FillI w d k wr) (hk : k < d.length) : FillI w d (k + 1) (wr.setCell ⟨w.heap.size, k, none⟩ (.int .i64 (d.getD k 0))) :=
  ⟨by rw [← Wd.fill_set d k hk]; exact h.1.set k _, h.2.setCell (Nat.le_refl _) _⟩
set_option maxHeartbeats 400000 in
theorem deltas_any (A : Option Addr) (m c : Nat) (l : List Int) (w : World) (hS : Wd.Sl w .i64 A m c l) (hm : m ≤ 1000000) :
    Calls Tryz.prog 197 #[.slice A m c] w (Wd.Out w .i64 (Rn.deltas l)) := by
  obtain ⟨i0, hi, hz0, hz1, hz2⟩ := info_parts info_int
  have hl := hS.len
  have hdl := Rn.deltas_len l
  have Hd := Lib.hid (Rn.deltas_get l)
  generalize Rn.deltas l = d at *
  have Hdl := Lib.hid hdl
  have Hl := Lib.hid hl
  have hcap := hS.cap
  clear hl hdl
  go_enter Tryz.func197, Tryz.ntmps197
  go_wp2_with (at_make; refine wpList_make_full _ rfl (.tmp 8) (.tmp 8) 25 rfl w.heap.size 3 i0 _ 1 Tryz.underlying25 hi hz0 hz1 .i64 .i64 m m m rfl rfl rfl rfl (by rw [hz2]; omega) (by unfold maxLen; omega) (Nat.le_refl _) ?_; intro w3 hown hgrow)
  have hb3 := (Below.refl w.heap.size w).grown hgrow (Nat.le_refl _) (by simp)
  rw [Wd.made_zero] at hown
  have hR := (Wd.Row.of_own hown).1
  have hI3 : FillI w d 0 w3 := ⟨by rw [Wd.fill_zero, Hdl.out, ← Hl.out]; exact hR, hb3⟩
  clear hown hgrow hb3 hR
  go_loopw [4, 12] (fun b i wr => ∃ k : Nat, i = .int .i64 k ∧ k ≤ m ∧ b = .int .i64 (Rn.prev l k) ∧ FillI w d k wr) (fun _ i _ => m - (intOf i).toNat)
  case atStart => exact ⟨0, rfl, Nat.zero_le _, rfl, hI3⟩
  case round =>
    clear hI3
    obtain ⟨k, rfl, hk, rfl, hI⟩ := hrel
    by_cases hlt : k < m
    · have hkd : k < d.length := by rw [Hdl.out, ← Hl.out]; exact hlt
      obtain ⟨b, o, rfl, hbB, hcell0⟩ := hS.rd k (by rw [← Hl.out]; exact hlt)
      have hcell := (hI.2.cell (p := ⟨b, o + k, none⟩) hbB).trans hcell0
      have hst := hI.step hkd
      rw [Hd.out k (by rw [← Hl.out]; exact hlt)] at hst
      have cg := hI.1.cell k (by rw [Wd.fill_len]; exact hkd)
      have cf := hI.1.free k
      obtain ⟨p, hp⟩ : ∃ p, p = Rn.prev l k := ⟨_, rfl⟩
      obtain ⟨x, hx⟩ : ∃ x, x = l.getD k 0 := ⟨_, rfl⟩
      have hpx : Rn.prev l (k + 1) = x := by rw [hx]; unfold Rn.prev; rw [if_neg (by omega)]; rfl
      rw [← hp, ← hx, Wd.wr64] at hst
      rw [← hx] at hcell
      rw [← hp]
      have Hst := Lib.hid hst
      have Hp := Lib.hid hpx
      clear hcell0 hst hp hx hpx
      go_wp2_with fail
      go_roundw
      case rel => exact ⟨k + 1, by go_num, by omega, by rw [Hp.out], Hst.out⟩
      case measure => simp [intOf]; omega
    · go_wp2_with fail
      go_ret
      obtain rfl : k = m := by omega
      have e : k = d.length := by rw [Hdl.out]; exact Hl.out
      have h1 := hI.1
      rw [e, Wd.fill_all] at h1
      exact ⟨_, _, _, rfl, h1.sl k e (by unfold maxLen; omega), hI.2⟩
set_option maxHeartbeats 400000 in
theorem sums_new (A : Option Addr) (m c : Nat) (l : List Int) (w : World) (hS : Wd.Sl w .i64 A m c l) (hm : m ≤ 1000000) :
    Calls Tryz.prog 198 #[.slice A m c] w fun e w' => ∃ A n c, e = .returned (.slice A n c) ∧ Wd.SlB w.heap.size w' .i64 A n c (Rn.sums l) ∧ Below w.heap.size w w' := by
  obtain ⟨i0, hi, hz0, hz1, hz2⟩ := info_parts info_int
  have hl := hS.len
  have hdl := Rn.sums_len l
  have Hd := Lib.hid (Rn.sums_get l)
  generalize Rn.sums l = d at *
  have Hdl := Lib.hid hdl
  have Hl := Lib.hid hl
  have hcap := hS.cap
  clear hl hdl
  go_enter Tryz.func198, Tryz.ntmps198
  go_wp2_with (at_make; refine wpList_make_full _ rfl (.tmp 8) (.tmp 8) 25 rfl w.heap.size 3 i0 _ 1 Tryz.underlying25 hi hz0 hz1 .i64 .i64 m m m rfl rfl rfl rfl (by rw [hz2]; omega) (by unfold maxLen; omega) (Nat.le_refl _) ?_; intro w3 hown hgrow)
  have hb3 := (Below.refl w.heap.size w).grown hgrow (Nat.le_refl _) (by simp)
  rw [Wd.made_zero] at hown
  have hR := (Wd.Row.of_own hown).1
  have hI3 : FillI w d 0 w3 := ⟨by rw [Wd.fill_zero, Hdl.out, ← Hl.out]; exact hR, hb3⟩
  clear hown hgrow hb3 hR
  go_loopw [4, 12] (fun b i wr => ∃ k : Nat, i = .int .i64 k ∧ k ≤ m ∧ b = .int .i64 (Rn.prev d k) ∧ FillI w d k wr) (fun _ i _ => m - (intOf i).toNat)
  case atStart => exact ⟨0, rfl, Nat.zero_le _, rfl, hI3⟩
  case round =>
    clear hI3
    obtain ⟨k, rfl, hk, rfl, hI⟩ := hrel
    by_cases hlt : k < m
    · have hkd : k < d.length := by rw [Hdl.out, ← Hl.out]; exact hlt
      obtain ⟨b, o, rfl, hbB, hcell0⟩ := hS.rd k (by rw [← Hl.out]; exact hlt)
      have hcell := (hI.2.cell (p := ⟨b, o + k, none⟩) hbB).trans hcell0
      have hst := hI.step hkd
      have hd := Hd.out k (by rw [← Hl.out]; exact hlt)
      have cg := hI.1.cell k (by rw [Wd.fill_len]; exact hkd)
      have cf := hI.1.free k
      obtain ⟨p, hp⟩ : ∃ p, p = Rn.prev d k := ⟨_, rfl⟩
      obtain ⟨x, hx⟩ : ∃ x, x = l.getD k 0 := ⟨_, rfl⟩
      have hpx : Rn.prev d (k + 1) = d.getD k 0 := by unfold Rn.prev; rw [if_neg (by omega)]; rfl
      rw [hd] at hpx hst
      rw [← hp, ← hx, Wd.wr64] at hst hpx
      rw [← hx] at hcell
      rw [← hp]
      have Hst := Lib.hid hst
      have Hp := Lib.hid hpx
      clear hcell0 hst hp hx hpx hd
      go_wp2_with fail
      go_roundw
      case rel => exact ⟨k + 1, by go_num, by omega, by rw [Hp.out], Hst.out⟩
      case measure => simp [intOf]; omega
    · go_wp2_with fail
      go_ret
      obtain rfl : k = m := by omega
      have e : k = d.length := by rw [Hdl.out]; exact Hl.out
      have h1 := hI.1
      rw [e, Wd.fill_all] at h1
      exact ⟨_, _, _, rfl, ⟨h1.sl k e (by unfold maxLen; omega), fun a q => by cases q; exact Nat.le_refl _⟩, hI.2⟩
set_option maxHeartbeats 400000 in
theorem putPlain_any (A : Option Addr) (m c : Nat) (l : List Int) (w : World) (hS : Wd.Sl w .i64 A m c l) (hm : m ≤ 100000) (hF : Rn.Fits l) :
    Calls Tryz.prog 143 #[.slice A m c] w (Wd.Out w .u8 (Rn.plain l)) := by
  obtain ⟨i0, hi, hz0, hz1, hz2⟩ := info_parts info_u8
  have hl := hS.len
  have Hl := Lib.hid hl
  have hcap := hS.cap
  have HF := Lib.hid hF
  clear hl hF
  go_enter Tryz.func143, Tryz.ntmps143
  go_wp2_with fail
  go_loopw [3, 8] (fun b i wr => ∃ k : Nat, i = .int .i64 k ∧ k ≤ m ∧ wr.ownsRow w.heap.size 5 1 b (Rn.plain (l.take k)).length ((Rn.plain (l.take k)).map (Value.int .u8)) ∧ Below w.heap.size w wr) (fun _ i _ => m - (intOf i).toNat)
  case atStart => exact ⟨0, rfl, Nat.zero_le _, World.ownsRow_nil _ _ _ _, Below.refl _ _⟩
  case round =>
    obtain ⟨k, rfl, hk, hown, hB⟩ := hrel
    by_cases hlt : k < m
    · have hkl : k < l.length := by rw [← Hl.out]; exact hlt
      obtain ⟨b, o, rfl, hbB, hcell0⟩ := hS.rd k hkl
      have hcell := (hB.cell (p := ⟨b, o + k, none⟩) hbB).trans hcell0
      have hx := Wd.fit_get HF.out k hkl
      have hpl := (Rn.plain_len (l.take k)).2
      have htk : (l.take k).length ≤ k := List.length_take_le _ _
      have hpl2 : (Rn.plain (l.take k)).length ≤ 10 * k := by omega
      have hnx := Rn.plain_next l k hkl
      obtain ⟨x, hx'⟩ : ∃ x, x = l.getD k 0 := ⟨_, rfl⟩
      rw [← hx'] at hcell hx hnx
      obtain ⟨hx1, hx2⟩ := hx
      obtain ⟨bs, hbs⟩ : ∃ bs, bs = Rn.plain (l.take k) := ⟨_, rfl⟩
      rw [← hbs] at hown hpl2 hnx
      have hvl := (Nm.vd_len (Nm.zz x)).2
      have Hn := Lib.hid hnx
      have hsz := hB.size
      obtain ⟨wo, rfl⟩ : ∃ wo : World, wo = wr := ⟨_, rfl⟩
      clear hcell0 hx' hnx hbs hpl htk
      go_wp2_with fail
      refine (put_any none 0 0 [] x wo (Wd.Sl.none_ _ _) (by omega) hx1 hx2).mono ?_
      rintro e w1 ⟨A1, n1, c1, rfl, hS1, hB1⟩
      have hown1 := Wd.own_below hown hB1
      rw [List.nil_append] at hS1
      obtain ⟨ds, hds⟩ : ∃ ds, ds = Nm.vd (Nm.zz x) := ⟨_, rfl⟩
      rw [← hds] at hS1 hvl Hn
      have Hn1 := Lib.hid hS1.len
      have hz1' : w.heap.size ≤ w1.heap.size := Nat.le_trans hsz hB1.size
      clear hds hown
      go_wp2_with (at_builtin; refine Wd.wpList_app _ rfl (.tmp 12) (.tmp 14) 32 rfl w.heap.size 5 i0 _ .u8 1 Tryz.underlying32 hi hz0 hz1 hz2 rfl _ bs rfl hown1 w1.heap.size A1 n1 c1 ds rfl Hn1.out hS1.nil hS1.rd (by omega) (by unfold maxLen; omega) hz1' ?_; intro v' w2 hown2 hg2)
      have hB2 : Below w.heap.size w w2 := (hB.trans (hB1.mono hsz)).grown hg2 hz1' (fun g hg => (hown1.lt g hg).1)
      go_roundw
      case rel => exact ⟨k + 1, by go_num, by omega, by rw [Hn.out]; exact hown2, hB2⟩
      case measure => simp [intOf]; omega
    · go_wp2_with fail
      go_ret
      have e : l.take k = l := List.take_of_length_le (by have := Hl.out; omega)
      rw [e] at hown
      exact Wd.Out.of_own hown hB
theorem putDeltas_any (A : Option Addr) (m c : Nat) (l : List Int) (w : World) (hS : Wd.Sl w .i64 A m c l) (hm : m ≤ 100000) :
    Calls Tryz.prog 147 #[.slice A m c] w (Wd.Out w .u8 (Rn.plain (Rn.deltas l))) := by
  have hF := Rn.deltas_fits l
  have hdl := Rn.deltas_len l
  have hl := hS.len
  have C1 := Lib.hid (deltas_any A m c l w hS (by omega))
  generalize Rn.deltas l = d at *
  have hd : d.length ≤ 100000 := by omega
  clear hdl hl
  go_enter Tryz.func147, Tryz.ntmps147
  go_wp2_with fail
  refine C1.out.mono ?_
  rintro e w1 ⟨A1, n1, c1, rfl, hS1, hB1⟩
  have hn1 : n1 ≤ 100000 := by rw [hS1.len]; exact hd
  go_wp2_with fail
  refine (putPlain_any A1 n1 c1 d w1 hS1 hn1 hF).mono ?_
  rintro e w2 ⟨A2, n2, c2, rfl, hS2, hB2⟩
  go_wp2_with fail
  go_ret
  exact ⟨A2, n2, c2, rfl, hS2, hB1.trans (hB2.mono hB1.size)⟩
set_option maxHeartbeats 400000 in
theorem appendRun_any (B : Nat) (v : Value) (xs : List Int) (x n : Int) (w : World) (hown : w.ownsRow B 3 1 v xs.length (xs.map (Value.int .i64))) (hB : B ≤ w.heap.size) (hx : xs.length ≤ 100000) (h0 : 0 ≤ n) (hn : n ≤ 100000) :
    Calls Tryz.prog 196 #[v, .agg #[.int .i64 x, .int .i64 n]] w fun e w' => ∃ v', e = .returned v' ∧ w'.ownsRow B 3 1 v' (xs ++ List.replicate n.toNat x).length ((xs ++ List.replicate n.toNat x).map (Value.int .i64)) ∧ Below B w w' := by
  obtain ⟨i0, hi, hz0, hz1, hz2⟩ := info_parts info_int
  obtain ⟨N, rfl⟩ := Int.eq_ofNat_of_zero_le h0
  rw [Int.toNat_natCast]
  have hN : N ≤ 100000 := by omega
  clear h0 hn
  go_enter Tryz.func196, Tryz.ntmps196
  go_wp2_with fail
  go_loopw [0, 7] (fun b i wr => ∃ k : Nat, i = .int .i64 k ∧ k ≤ N ∧ wr.ownsRow B 3 1 b (xs ++ List.replicate k x).length ((xs ++ List.replicate k x).map (Value.int .i64)) ∧ Wd.Bx wr w.heap.size 144 #[.int .i64 x, .int .i64 N] ∧ Below B w wr) (fun _ i _ => N - (intOf i).toNat)
  case atStart => exact ⟨0, rfl, Nat.zero_le _, by simpa using hown.alloc _, Wd.Bx.new _ _ _, (Below.refl _ _).alloc hB _⟩
  case round =>
    clear hown
    obtain ⟨k, rfl, hk, hown, hX, hW⟩ := hrel
    by_cases hlt : k < N
    · have c0 := hX.cell 0
      have cx : wr.cell? ⟨w.heap.size, 0, none⟩ = some (.int .i64 x) := c0
      have hsz : B ≤ wr.heap.size := Nat.le_trans hB hW.size
      have hal := hown.alloc (.cells #[.int .i64 x] 3)
      have hXa := hX.alloc (.cells #[.int .i64 x] 3)
      have hap := hXa.apart hal (by decide)
      have hlo := hal.lt
      have hnx : xs ++ List.replicate (k + 1) x = (xs ++ List.replicate k x) ++ [x] := by rw [List.replicate_succ', List.append_assoc]
      have hyl : (xs ++ List.replicate k x).length ≤ 200000 := by simp; omega
      obtain ⟨ys, hys⟩ : ∃ ys, ys = xs ++ List.replicate k x := ⟨_, rfl⟩
      rw [← hys] at hnx hyl hal
      have Hn := Lib.hid hnx
      have Hal := Lib.hid hal
      have Hap := Lib.hid hap
      have Hlo := Lib.hid hlo
      clear hnx hys hal hown c0 hap hlo
      go_wp2_with (at_builtin; refine Wd.wpList_app _ rfl (.tmp 9) (.tmp 12) 25 rfl B 3 i0 _ .i64 8 Tryz.underlying25 hi hz0 hz1 hz2 rfl _ ys rfl Hal.out (wr.heap.size + 1) _ 1 1 [x] rfl rfl (by simp) (Wd.Rd.lit wr .i64 [x] _ _ rfl) (by simp; omega) (by simp [maxLen]; omega) (by simp; omega) ?_; intro v' w1 hown1 hg1)
      go_roundw
      case rel => exact ⟨k + 1, by go_num, by omega, by rw [Hn.out]; exact hown1, hXa.grown hg1 Hap.out, (hW.alloc hsz _).grown hg1 (by simp; omega) (fun g hg => (Hlo.out g hg).1)⟩
      case measure => simp [intOf]; omega
    · go_wp2_with fail
      go_ret
      obtain rfl : k = N := by omega
      exact ⟨_, rfl, hown, hW⟩
end Rc
end Go.Proofs.YtaoeipehpakngaaGreatDoor
namespace Go.Proofs.YtaoeipehpakngaaGreatDoor
open Go.RowKit Go.Shelf
attribute [local go_sem] Oper.semAt_some
namespace Rc
abbrev Run := { p : Int × Int // Rn.Fit p.1 ∧ 1 ≤ p.2 ∧ p.2 ≤ 1000000 }
def vals (l : List Run) : Rn.Rs := l.map (·.1)
theorem vals_snoc (l : List Run) (x : Run) : vals (l ++ [x]) = vals l ++ [x.1] := by simp [vals]
def Keeps (n b : Nat) (W W' : World) : Prop := Below n W W' ∧ W'.heap[b]? = W.heap[b]?
theorem Keeps.refl (n b : Nat) (W : World) : Keeps n b W W := ⟨Below.refl _ _, rfl⟩
theorem Keeps.trans {n b : Nat} {A B C : World} (h : Keeps n b A B) (k : Keeps n b B C) : Keeps n b A C := ⟨h.1.trans k.1, k.2.trans h.2⟩
theorem Keeps.drewN {n b : Nat} {A B : World} (h : Keeps n b A B) (q : Nat) : Keeps n b A (B.drewN q) := ⟨Wd.below_drewN h.1 q, h.2⟩
theorem grown_drewN (W : World) (q : Nat) : W.grownBy (W.drewN q) none := ⟨rfl, rfl, rfl, Nat.le_refl _, fun _ _ _ => rfl⟩
theorem row_next (l : List Int) (s e : Nat) (x : Int) (hs : s ≤ e) (he : e < l.length) (h : l.take e = l.take s ++ List.replicate (e - s) x) (hx : l.getD e 0 = x) : l.take (e + 1) = l.take s ++ List.replicate (e + 1 - s) x := by
  rw [Rn.take_next l e 0 he, h, hx, show e + 1 - s = (e - s) + 1 by omega, List.replicate_succ', List.append_assoc]
def AtK (l : List Int) (k : Nat) (pre : List Run) : Prop := vals pre = Rn.runs (l.take k) ∧ (k < l.length → Rn.Apart (Rn.runs (l.take k)) (l.getD k 0))
theorem atK_zero (l : List Int) : AtK l 0 [] := ⟨rfl, fun _ => Rn.apart_nil _⟩
theorem atK_next {l : List Int} {s e : Nat} {pre : List Run} (h : AtK l s pre) (hF : Rn.Fits l) (hl : l.length ≤ 1000000) (hs : s < e) (he : e ≤ l.length) (hr : l.take e = l.take s ++ List.replicate (e - s) (l.getD s 0)) (hx : e < l.length → l.getD e 0 ≠ l.getD s 0) :
    ∃ x : Run, x.1 = (l.getD s 0, ((e : Int) - s)) ∧ AtK l e (pre ++ [x]) := by
  have hf := Wd.fit_get hF s (by omega)
  refine ⟨⟨(l.getD s 0, ((e : Int) - s)), hf, by simp only; omega, by simp only; omega⟩, rfl, ?_, ?_⟩
  · rw [vals_snoc, h.1, hr, show e - s = (e - s - 1) + 1 by omega, Rn.runs_row _ _ _ (h.2 (by omega))]
    congr 2
    simp only [Prod.mk.injEq, true_and]
    omega
  · intro hel
    have e1 : e = (e - 1) + 1 := by omega
    rw [hr, show e - s = (e - s - 1) + 1 by omega, List.replicate_succ', ← List.append_assoc]
    exact Rn.runs_apart _ _ _ (fun q => hx hel q.symm)
set_option maxRecDepth 100000 in
set_option maxHeartbeats 1000000 in
theorem each1_in (n : Nat) (hn : 1 ≤ n) (l Bl n₀ : Nat) (A : Option Addr) (m c : Nat) (zs : List Int) (hF : Rn.Fits zs) (hm : m ≤ 1000000) (J Jx : List Run → World → Prop) (W : World) (hJ : AbidesFrom W.heap.size J)
    (hY : ∀ pre x W, J pre W → pre.length < m → YieldAt Fence.wide (n - 1) Tryz.prog l #[.agg #[.int .i64 x.1.1, .int .i64 x.1.2]] W fun e W' =>
      (e = .returned (.bool true) ∧ J (pre ++ [x]) W' ∧ Keeps n₀ Bl W W') ∨ (e = .returned (.bool false) ∧ Jx (pre ++ [x]) W'))
    (hBx : Wd.Bx W Bl 25 #[.slice A m c]) (hl : m = zs.length) (hrd : Wd.Rd W n₀ .i64 A zs) (h0 : J [] W) :
    CallsIn Fence.wide n Tryz.prog 235 #[.func (.yield l) #[] #[], .pointer (some ⟨Bl, 0, none⟩)] W fun e W' => (∃ v, e = .returned v) ∧
      ((∃ ys, vals ys = Rn.runs zs ∧ J ys W') ∨ (∃ pre, True ∧ Jx pre W')) := by
  have cB := hBx.cell 0
  have cB' : W.cell? ⟨Bl, 0, none⟩ = some (.slice A m c) := cB
  clear cB
  have Hl := Lib.hid hl
  have HF := Lib.hid hF
  clear hl hF
  refine callsIn_of_wp Tryz.func235 rfl trivial ?_ rfl
  simp only [Tryz.ntmps235, List.size_toArray, List.length_cons, List.length_nil, Nat.reduceAdd, Nat.reduceSub, Array.replicate_succ, Array.replicate_zero, List.push_toArray, List.append_toArray, List.nil_append, List.cons_append]
  gi_wp2
  gi_loopw [3, 4] (fun s e wr => ∃ (k : Nat) (pre : List Run), s = .int .i64 k ∧ e = .int .i64 k ∧ k ≤ m ∧ Hid (AtK zs k pre) ∧ J pre wr ∧ Keeps n₀ Bl W wr ∧ pre.length ≤ k) (fun s _ _ => m - (intOf s).toNat)
  case atStart => exact ⟨0, [], rfl, rfl, Nat.zero_le _, Lib.hid (atK_zero zs), h0, Keeps.refl _ _ _, Nat.le_refl _⟩
  case round =>
    obtain ⟨k, pre, rfl, rfl, hk, hA, hJs, hK, hpl⟩ := hrel
    have cB : wr.cell? ⟨Bl, 0, none⟩ = some (.slice A m c) := (World.cell?_of_block hK.2).trans cB'
    by_cases hlt : k < m
    · obtain ⟨x, hx⟩ : ∃ x, x = zs.getD k 0 := ⟨_, rfl⟩
      have hkl : k < zs.length := by rw [← Hl.out]; exact hlt
      obtain ⟨b, o, rfl, hbB, hcell0⟩ := hrd k hkl
      have hcx : wr.cell? ⟨b, o + k, none⟩ = some (.int .i64 x) := by rw [hx]; exact (hK.1.cell (p := ⟨b, o + k, none⟩) hbB).trans hcell0
      have Hx := Lib.hid hx
      clear hcell0 hx
      obtain ⟨wo, rfl⟩ : ∃ wo : World, wo = wr := ⟨_, rfl⟩
      gi_wp2
      gi_loopw [4] (fun e wr => ∃ (j q : Nat), e = .int .i64 j ∧ k ≤ j ∧ j ≤ m ∧ wr = wo.drewN q ∧ Hid (zs.take j = zs.take k ++ List.replicate (j - k) x)) (fun e _ => m - (intOf e).toNat)
      case atStart => exact ⟨k, 0, rfl, Nat.le_refl _, hk, rfl, Lib.hid (by simp)⟩
      case round =>
        obtain ⟨j, q, rfl, hkj, hjm, rfl, hR⟩ := hrel
        by_cases hjl : j < m
        · have hjl' : j < zs.length := by rw [← Hl.out]; exact hjl
          obtain ⟨b', o', e', hbB', hcell1⟩ := hrd j hjl'
          simp only [Option.some.injEq, Addr.mk.injEq, and_true] at e'
          obtain ⟨rfl, rfl⟩ := e'
          obtain ⟨y, hy⟩ : ∃ y, y = zs.getD j 0 := ⟨_, rfl⟩
          have hcy : wo.cell? ⟨b, o + j, none⟩ = some (.int .i64 y) := by rw [hy]; exact (hK.1.cell (p := ⟨b, o + j, none⟩) hbB).trans hcell1
          have Hy := Lib.hid hy
          clear hcell1 hy
          have hdt : decide (j < m) = true := by simpa using hjl
          have i1 : (j : Int) < (m : Int) := by omega
          have i2 : (k : Int) < (m : Int) := by omega
          by_cases hxy : y = x
          · have hbq : (y == x) = true := by rw [hxy]; simp
            have Hxy := Lib.hid hxy
            clear hxy
            gi_wp2
            gi_quiet (fail)
            gi_wp2
            go_roundw
            case rel => exact ⟨j + 1, _, by go_num, by omega, by omega, rfl, Lib.hid (row_next zs k j x hkj hjl' hR.out (by rw [← Hy.out]; exact Hxy.out))⟩
            case measure => simp [intOf]; omega
          · have hbq : (y == x) = false := by rw [beq_eq_false_iff_ne]; exact hxy
            have hend : j < zs.length → zs.getD j 0 ≠ zs.getD k 0 := fun _ => by rw [← Hy.out, ← Hx.out]; exact hxy
            have hkj2 : k < j := by
              rcases Nat.lt_or_ge k j with h | h
              · exact h
              · exfalso
                obtain rfl : k = j := by omega
                exact hxy (by rw [Hx.out, Hy.out])
            have Hend := Lib.hid hend
            clear hend hxy
            gi_wp2
            gi_quiet (fail)
            obtain ⟨xr, hxr, hA2⟩ := atK_next hA.out HF.out (by rw [← Hl.out]; exact hm) hkj2 (by rw [← Hl.out]; exact hjm) (by rw [← Hx.out]; exact hR.out) Hend.out
            obtain ⟨fn, tmps, assign, body, hy, hRd⟩ := hY pre xr (wo.drewN (q + nq)) (hJ pre wo _ none hJs (grown_drewN _ _) (by simp)) (by omega)
            rw [hxr] at hy
            dsimp only at hy
            rw [← Hx.out] at hy
            have HA2 := Lib.hid hA2
            have Hxr := Lib.hid hxr
            clear hA2 hxr
            gi_wp2
            refine hRd.mono ?_
            rintro e W3 (⟨rfl, hJ3, hk3⟩ | ⟨rfl, hJx3⟩)
            · gi_wp2
              go_roundw
              case rel => exact ⟨j, pre ++ [xr], rfl, rfl, hjm, HA2, hJ3, (hK.drewN _).trans hk3, by simp; omega⟩
              case measure => simp [intOf]; omega
            · gi_wp2
              refine bodyPost_ret (results_none rfl _ _ _) rfl ?_
              exact ⟨⟨_, rfl⟩, .inr ⟨_, trivial, hJx3⟩⟩
        · have hend : j < zs.length → zs.getD j 0 ≠ zs.getD k 0 := fun h => by rw [← Hl.out] at h; omega
          have hkj2 : k < j := by omega
          have Hend := Lib.hid hend
          have hdf : decide (j < m) = false := by simpa using hjl
          clear hend
          gi_wp2
          gi_quiet (fail)
          obtain ⟨xr, hxr, hA2⟩ := atK_next hA.out HF.out (by rw [← Hl.out]; exact hm) hkj2 (by rw [← Hl.out]; exact hjm) (by rw [← Hx.out]; exact hR.out) Hend.out
          obtain ⟨fn, tmps, assign, body, hy, hRd⟩ := hY pre xr (wo.drewN (q + nq)) (hJ pre wo _ none hJs (grown_drewN _ _) (by simp)) (by omega)
          rw [hxr] at hy
          dsimp only at hy
          rw [← Hx.out] at hy
          have HA2 := Lib.hid hA2
          have Hxr := Lib.hid hxr
          clear hA2 hxr
          gi_wp2
          refine hRd.mono ?_
          rintro e W3 (⟨rfl, hJ3, hk3⟩ | ⟨rfl, hJx3⟩)
          · gi_wp2
            go_roundw
            case rel => exact ⟨j, pre ++ [xr], rfl, rfl, hjm, HA2, hJ3, (hK.drewN _).trans hk3, by simp; omega⟩
            case measure => simp [intOf]; omega
          · gi_wp2
            refine bodyPost_ret (results_none rfl _ _ _) rfl ?_
            exact ⟨⟨_, rfl⟩, .inr ⟨_, trivial, hJx3⟩⟩
    · gi_wp2
      go_end0
      refine ⟨⟨_, rfl⟩, .inl ⟨pre, ?_, hJs⟩⟩
      rw [hA.out.1, List.take_of_length_le (by have := Hl.out; omega)]
end Rc
attribute [local go_sem] Oper.semAt_some
namespace Rc
theorem eachRun_in (n : Nat) (A : Option Addr) (m c : Nat) (w : World) :
    CallsIn Fence.wide n Tryz.prog 194 #[.slice A m c] w fun e w' => e = .returned (.func (.func 235) #[] #[.pointer (some ⟨w.heap.size, 0, none⟩)]) ∧ w' = w.alloc (.cells #[.slice A m c] 25) := by
  refine callsIn_of_wp Tryz.func194 rfl trivial ?_ rfl
  simp only [Tryz.ntmps194, List.size_toArray, List.length_cons, List.length_nil, Nat.reduceAdd, Nat.reduceSub, Array.replicate_succ, Array.replicate_zero, List.push_toArray, List.append_toArray, List.nil_append, List.cons_append]
  gi_wp2
  go_ret
  exact ⟨rfl, rfl⟩
theorem each_stops (n : Nat) (hn : 1 ≤ n) (Bl n₀ : Nat) (A : Option Addr) (m c : Nat) (zs : List Int) (hF : Rn.Fits zs) (hm : m ≤ 1000000) (w : World) (hBl : Wd.Bx w Bl 25 #[.slice A m c]) (hn₀ : n₀ ≤ w.heap.size) (hl : m = zs.length) (hrd : Wd.Rd w n₀ .i64 A zs) :
    SeqStopsK Fence.wide n Tryz.prog 235 #[.pointer (some ⟨Bl, 0, none⟩)] (fun x : Run => #[Value.agg #[.int .i64 x.1.1, .int .i64 x.1.2]]) (Keeps n₀ Bl) (fun ys => vals ys = Rn.runs zs) (fun _ => True) m w :=
  fun l J Jx W hW hJ _ hY h0 => each1_in n hn l Bl n₀ A m c zs hF hm J Jx W hJ hY (hBl.below hBl.lt hW) hl (hrd.below (hW.mono hn₀)) h0
theorem keeps_b {n₀ Bl : Nat} {w : World} (hn : n₀ ≤ w.heap.size) (hb : Bl < w.heap.size) (W : World) (l : Nat) (o o' : Obj) (hl : w.heap.size ≤ l) (h : W.heap[l]? = some o) (h1 : o.isCells = false) (h2 : o.isWalk = false) : Keeps n₀ Bl W (W.putObj l o') :=
  ⟨belowK_b hn W l o o' hl h h1 h2, World.putObj_heap_other (by omega)⟩
theorem info_run : (Tryz.prog.info? 144).map (fun i => (i.zero, i.size, i.bytes)) = some (some (.agg #[.int .i64 0, .int .i64 0]), 2, 16) := by kernel_rfl
theorem two_new (w : World) (a b : Value) (e : TypeId) : ∀ j u, [a, b][j]? = some u → (w.alloc (.cells #[a, b] e)).cell? ((⟨w.heap.size, 0, none⟩ : Addr).add j) = some u := by
  intro j u h
  rw [Addr.add_lit, Nat.zero_add, cell_of_row _ _ _ _ _ _ (heap_alloc_new w _), ← h]
  simp
theorem bx_own {β : Type} (g : Nat) (t : TypeId) (cs : Array Value) : Own (fun (_ : β) W => Wd.Bx W g t cs) := fun _ X Y row hv hg hrow => hv.grown hg (fun e => by
  obtain ⟨o, ho, hc⟩ := hrow g e.symm
  rw [show X.heap[g]? = _ from hv] at ho
  cases ho
  cases hc)
theorem keepsFrom_below {B : Nat} {W W' : World} (h : Below W.heap.size W W') : KeepsFrom B W W' := ⟨h.size, fun k _ _ hk _ => (h.block k (Array.getElem?_eq_some_iff.1 hk).1).trans hk⟩
end Rc
end Go.Proofs.YtaoeipehpakngaaGreatDoor
