/- What slices.SortFunc is at this program: the numbers of what the library speaks of, as its contract asks them. slices.SortFunc of a row of values of the call's own, by value.Order: in plain words. slices.Clone of a slice of values; slices.SortFunc of no values. -/
import Derived.Shelf.SlSortCmp.WholeK
import Derived.Ground.SlsfProg
import Derived.WalkKit
import Derived.Test.YtnhgijlhnamolaaGreatDoorProg
import Derived.Test.YtnhgijlhnamolaaGreatDoorPk12
import Derived.Test.YtnhgijlhnamolaaGreatDoorPk21
import Derived.Test.YtnhgijlhnamolaaGreatDoorPk11
namespace Go.Proofs.YtnhgijlhnamolaaGreatDoor
open Go.Shelf
def Tryz.sortV_ren : Go.Shelf.Ren := ⟨fun | 6 => 75 | 15 => 85 | 14 => 84 | 28 => 97 | 29 => 98 | 20 => 89 | 21 => 90 | 22 => 91 | 23 => 92 | 24 => 93 | 25 => 94 | 26 => 95 | 27 => 96 | 46 => 99 | 47 => 100 | 48 => 101 | 49 => 102 | 50 => 103 | 57 => 104 | n => n, fun | 22 => 22 | 24 => 34 | 25 => 72 | 3 => 3 | 39 => 99 | 0 => 0 | 53 => 126 | 55 => 76 | 4 => 4 | 46 => 120 | 45 => 119 | 50 => 106 | 5 => 5 | 9 => 9 | 66 => 127 | 70 => 131 | 76 => 133 | 77 => 134 | n => n, fun | n => n⟩
theorem Tryz.sortV : Go.Proofs.SlLaysF0.n6 Tryz.prog Tryz.sortV_ren := {
  mixed := by kernel_rfl
  f6 := ⟨Tryz.f75.name, by decide, Tryz.func75.trans (congrArg some (by kernel_rfl))⟩
  f14 := ⟨Tryz.f84.name, by decide, Tryz.func84.trans (congrArg some (by kernel_rfl))⟩
  f15 := Tryz.func85.trans (congrArg some (by kernel_rfl))
  f20 := ⟨Tryz.f89.name, by decide, Tryz.func89.trans (congrArg some (by kernel_rfl))⟩
  f21 := ⟨Tryz.f90.name, by decide, Tryz.func90.trans (congrArg some (by kernel_rfl))⟩
  f22 := ⟨Tryz.f91.name, by decide, Tryz.func91.trans (congrArg some (by kernel_rfl))⟩
  f23 := ⟨Tryz.f92.name, by decide, Tryz.func92.trans (congrArg some (by kernel_rfl))⟩
  f24 := ⟨Tryz.f93.name, by decide, Tryz.func93.trans (congrArg some (by kernel_rfl))⟩
  f25 := ⟨Tryz.f94.name, by decide, Tryz.func94.trans (congrArg some (by kernel_rfl))⟩
  f26 := ⟨Tryz.f95.name, by decide, Tryz.func95.trans (congrArg some (by kernel_rfl))⟩
  f27 := ⟨Tryz.f96.name, by decide, Tryz.func96.trans (congrArg some (by kernel_rfl))⟩
  f28 := Tryz.func97.trans (congrArg some (by kernel_rfl))
  f29 := Tryz.func98.trans (congrArg some (by kernel_rfl))
  f46 := ⟨Tryz.f99.name, by decide, Tryz.func99.trans (congrArg some (by kernel_rfl))⟩
  f47 := Tryz.func100.trans (congrArg some (by kernel_rfl))
  f48 := Tryz.func101.trans (congrArg some (by kernel_rfl))
  f49 := ⟨Tryz.f102.name, by decide, Tryz.func102.trans (congrArg some (by kernel_rfl))⟩
  f50 := ⟨Tryz.f103.name, by decide, Tryz.func103.trans (congrArg some (by kernel_rfl))⟩
  f57 := ⟨Tryz.f104.name, by decide, Tryz.func104.trans (congrArg some (by kernel_rfl))⟩
  t0 := Tryz.underlying0
  a0 := Tryz.isAgg0
  z0 := Tryz.sizeOf0
  v0 := Tryz.zeroValue0
  t3 := Tryz.underlying3
  a3 := Tryz.isAgg3
  z3 := Tryz.sizeOf3
  v3 := Tryz.zeroValue3
  t4 := Tryz.underlying4
  a4 := Tryz.isAgg4
  z4 := Tryz.sizeOf4
  v4 := Tryz.zeroValue4
  t5 := Tryz.underlying5
  a5 := Tryz.isAgg5
  z5 := Tryz.sizeOf5
  v5 := Tryz.zeroValue5
  t9 := Tryz.underlying9
  a9 := Tryz.isAgg9
  z9 := Tryz.sizeOf9
  v9 := Tryz.zeroValue9
  t22 := Tryz.underlying22
  a22 := Tryz.isAgg22
  z22 := Tryz.sizeOf22
  v22 := Tryz.zeroValue22
  t25 := Tryz.underlying72
  a25 := Tryz.isAgg72
  z25 := Tryz.sizeOf72
  v25 := Tryz.zeroValue72
  t39 := Tryz.underlying99
  a39 := Tryz.isAgg99
  z39 := Tryz.sizeOf99
  v39 := Tryz.zeroValue99
  t45 := Tryz.underlying119
  a45 := Tryz.isAgg119
  z45 := Tryz.sizeOf119
  v45 := Tryz.zeroValue119
  t46 := Tryz.underlying120
  a46 := Tryz.isAgg120
  z46 := Tryz.sizeOf120
  v46 := Tryz.zeroValue120
  t50 := Tryz.underlying106
  a50 := Tryz.isAgg106
  z50 := Tryz.sizeOf106
  v50 := Tryz.zeroValue106
  t53 := Tryz.underlying126
  a53 := Tryz.isAgg126
  z53 := Tryz.sizeOf126
  v53 := Tryz.zeroValue126
  t55 := Tryz.underlying76
  a55 := Tryz.isAgg76
  z55 := Tryz.sizeOf76
  v55 := Tryz.zeroValue76
  t66 := Tryz.underlying127
  a66 := Tryz.isAgg127
  z66 := Tryz.sizeOf127
  v66 := Tryz.zeroValue127
  t70 := Tryz.underlying131
  a70 := Tryz.isAgg131
  z70 := Tryz.sizeOf131
  v70 := Tryz.zeroValue131
  t76 := Tryz.underlying133
  a76 := Tryz.isAgg133
  z76 := Tryz.sizeOf133
  v76 := Tryz.zeroValue133
  t77 := Tryz.underlying134
  a77 := Tryz.isAgg134
  z77 := Tryz.sizeOf134
  v77 := Tryz.zeroValue134 }
end Go.Proofs.YtnhgijlhnamolaaGreatDoor
namespace Go.Proofs.YtnhgijlhnamolaaGreatDoor
set_option maxRecDepth 20000
open Go.RowKit Go.Sort Go.Shelf Go.Lib
namespace Ds
open Va (Vl May ord null)
open Dc Dx
theorem ltOf_iff (x y : Vl) : ltOf ord x y = true ↔ ord x y < 0 := by unfold ltOf; simp
theorem ltOf_no (x y : Vl) : ltOf ord x y = false ↔ ¬ ord x y < 0 := by unfold ltOf; simp
theorem swo : SWO (ltOf ord) where
  irrefl x := (ltOf_no x x).2 (lt_irrefl x)
  trans x y z h1 h2 := (ltOf_iff x z).2 (lt_trans ((ltOf_iff x y).1 h1) ((ltOf_iff y z).1 h2))
  ntrans x y z h1 h2 := by
    rw [ltOf_no] at *
    have n1 := Va.ord_neg y x
    have n2 := Va.ord_neg z y
    have n3 := Va.ord_neg z x
    have := Va.ord_le_trans (a := z) (b := y) (c := x) (by omega) (by omega)
    omega
theorem lays (blk off size : Nat) (w : World) : CmpLays Tryz.prog 64 #[] Wd.vals 4 ord blk off size w :=
  fun _ _ _ _ x y => (Vc.order_grow x.kind x.i x.s x.b y.kind y.i y.s y.b _).mono fun _ _ h => ⟨h.1, Vc.grow_of h.2.1 h.2.2⟩
/-- A row of the call's own holds its list. -/
theorem holds {w : World} {B g n c : Nat} {L : List Vl} (h : w.ownsRow B 34 4 (.slice (some ⟨g, 0, none⟩) n c) n (Wd.flatV L)) : HoldsK Wd.vals 4 w g 0 L.toArray := by
  rcases h.2 with ⟨h', _⟩ | ⟨g', cap', cur, h', hb, hg, h2, h3, h4, h5⟩
  · cases h'
  · simp only [Value.slice.injEq, Option.some.injEq, Addr.mk.injEq, and_true, true_and] at h'
    obtain ⟨rfl, rfl⟩ := h'
    intro j hj
    rw [size_flatK] at hj
    have hj2 : j < L.length * 4 := by simpa using hj
    have hfl : (flatK Wd.vals 4 L.toArray)[j]! = (Wd.vals (L.getD (j / 4) default))[j % 4]! := by
      rw [get_flatK _ _ _ _ hj]
      congr 2
      simp [List.getD]
    have hi : (Wd.vals (L.getD (j / 4) default))[j % 4]? = some ((Wd.vals (L.getD (j / 4) default))[j % 4]!) := by
      have : j % 4 < (Wd.vals (L.getD (j / 4) default)).length := by simp [Wd.vals]; omega
      rw [List.getElem!_eq_getElem?_getD, List.getElem?_eq_getElem this]
      rfl
    have hf := Wd.flatV_get L (j / 4) (by omega) (j % 4) _ hi
    rw [show j / 4 * 4 + j % 4 = j by omega] at hf
    refine ⟨?_, ?_⟩
    · rw [Nat.zero_add, h.cellAt j (by have := h.1; rw [Wd.flatV_len] at this; omega), hf, hfl]
      rfl
    · unfold World.frozen?
      simp only [hg]
      simp
/-- What holds a list is a slice of it. -/
theorem vs_of {w : World} {g n c : Nat} {L : List Vl} (h : HoldsK Wd.vals 4 w g 0 L.toArray) (hg : g < w.heap.size) (hn : n = L.length) (hc : n ≤ c) (hm : c ≤ maxLen) (h1 : ∀ j, j < L.length → Wd.V1 (L.getD j default)) : Wd.Vs w (some ⟨g, 0, none⟩) n c L :=
  ⟨hn, hc, hm, by simp, fun j hj => ⟨g, 0, rfl, hg, fun i v hv => by
    have hi : i < 4 := by have := (List.getElem?_eq_some_iff.1 hv).1; simpa [Wd.vals] using this
    have := (h.cell (i := j) (c := i) (by simpa using hj) hi).1
    rw [show 0 + j * 4 + i = 0 + (j * 4 + i) by omega] at this
    rw [this]
    have e : L.toArray[j]! = L.getD j default := by simp [List.getD]
    rw [e, ← hv, List.getElem!_eq_getElem?_getD, List.getElem?_eq_getElem (by simpa [Wd.vals] using hi)]
    rfl, h1 j hj⟩⟩
/-- Sorted, as a list. -/
theorem sorted_list {L : List Vl} {d' : Array Vl} (hm : ∀ x ∈ L, May x) (hn : L.Nodup) (hp : PermIn 0 L.toArray.size L.toArray d') (hs : SortedIn (ltOf ord) 0 L.toArray.size d') : d'.toList = srt L := by
  obtain ⟨h1, _, h3⟩ := hp
  have h1' : d'.size = L.length := by simpa using h1
  have e1 : (d'.extract 0 L.toArray.size).toList = d'.toList := by
    rw [show L.toArray.size = d'.size from h1.symm]
    simp
  have e2 : (L.toArray.extract 0 L.toArray.size).toList = L := by simp
  rw [e1, e2] at h3
  refine srt_only hm hn h3 ?_
  rw [List.pairwise_iff_getElem]
  intro i j hi hj hij
  have := hs i j (Nat.zero_le _) hij (by simpa [← h1'] using hj)
  rw [ltOf_no] at this
  have a1 : d'[i]! = d'.toList[i] := by rw [getElem!_pos d' i (by simpa using hi)]; simp
  have a2 : d'[j]! = d'.toList[j] := by rw [getElem!_pos d' j (by simpa using hj)]; simp
  rw [a1, a2] at this
  have n := Va.ord_neg (d'.toList[j]) (d'.toList[i])
  omega
theorem isAggV (w : World) : (isAgg 34).run Tryz.prog w = .ok true w := Tryz.isAgg34 w
theorem sizeV (w : World) : (Go.sizeOf 34).run Tryz.prog w = .ok 4 w := Tryz.sizeOf34 w
/-- The sort of a row of values. -/
theorem sort_any (B g n c : Nat) (L : List Vl) (w : World) (hown : w.ownsRow B 34 4 (.slice (some ⟨g, 0, none⟩) n c) n (Wd.flatV L)) (h1 : ∀ x ∈ L, Wd.V1 x) (hm : ∀ x ∈ L, May x) (hn : L.Nodup) (hl : L.length ≤ 4096) :
    Calls Tryz.prog 75 #[.slice (some ⟨g, 0, none⟩) n c, .func (.func 64) #[] #[]] w fun e w' => e = .returned (.tuple #[]) ∧ Wd.Vs w' (some ⟨g, 0, none⟩) n c (srt L) ∧ w.grownBy w' (some g) := by
  have hlen : n = L.length := by have := hown.1; rw [Wd.flatV_len] at this; omega
  have eg : ∀ args w, (callFunc 64 args).run Tryz.prog w = .ok (.enter 64 args) w := enters_of Tryz.func64 (by kernel_rfl) rfl
  have hH := holds hown
  have hg : g < w.heap.size := (Wd.own_lt hown (x := g) rfl).1
  have hcc : n ≤ c ∧ c ≤ maxLen := by
    rcases hown.2 with ⟨h', _⟩ | ⟨g', cap', cur, h', hb, hg, h2, h3, h4, h5⟩
    · cases h'
    · simp only [Value.slice.injEq] at h'
      obtain ⟨_, _, rfl⟩ := h'
      exact ⟨h2, h3⟩
  have hcon := AnyQ.slices_SortFunc Tryz.sortV 4 isAggV sizeV Wd.vals (fun _ => rfl) (fun x v hv => Wd.vals_one x v hv) ord swo 64 #[] g 0 c L.toArray w eg (lays g 0 L.toArray.size w) hH hg (by simp; omega)
  change Calls Tryz.prog 75 _ _ _ at hcon
  rw [show L.toArray.size = n by simp [hlen]] at hcon
  refine hcon.mono ?_
  rintro e w' ⟨rfl, d', q, os, hp, hs, rfl⟩
  have hd : d'.toList = srt L := sorted_list hm hn (by rw [show L.toArray.size = n by simp [hlen]]; exact hp) (by rw [show L.toArray.size = n by simp [hlen]]; exact hs)
  have hds : d' = (srt L).toArray := by rw [← hd]
  subst hds
  refine ⟨rfl, ?_, ?_⟩
  · refine vs_of (holdsK_sortWorldK_c Wd.vals 4 w g 0 L.toArray _ q os hH hg (by simp [srt_len])) ?_ (by rw [srt_len]; exact hlen) hcc.1 hcc.2 fun j hj => h1 _ ?_
    · unfold sortWorldK
      rw [size_grow]
      have : (putRowK Wd.vals 4 (Sort.ahead w q) g 0 (srt L).toArray).heap.size = w.heap.size := by simp [putRowK, putRow, mapBlock]
      omega
    · rw [← srt_mem L, List.getD_eq_getElem?_getD, List.getElem?_eq_getElem hj]
      exact List.getElem_mem hj
  · refine ⟨rfl, rfl, rfl, by simp [sortWorldK, putRowK, putRow, mapBlock], fun j hj hne => ?_⟩
    unfold sortWorldK
    rw [heap_grow_old _ _ (by simpa [putRowK, putRow, mapBlock] using hj)]
    have : g ≠ j := fun e => hne (by rw [e])
    simp [putRowK, putRow, mapBlock, Sort.ahead, Array.getElem?_modify, this]
end Ds
end Go.Proofs.YtnhgijlhnamolaaGreatDoor
namespace Go.Proofs.YtnhgijlhnamolaaGreatDoor
set_option maxRecDepth 20000
open Go.RowKit Go.Shelf
namespace Ds
open Va (Vl May ord null)
open Dc Dx
theorem ins_none (p : Option Addr) (c : Nat) (fv : Value) (w : World) :
    Calls Tryz.prog 89 #[.slice p 0 c, .int .i64 0, .int .i64 0, fv] w fun e w' => e = .returned (.tuple #[]) ∧ w' = w := by
  go_enter Tryz.func89, Tryz.ntmps89
  go_wp2
  refine wp_loop_rounds 1 ?_
  rw [rounds_succ]
  go_wp2
  go_end0
  exact ⟨rfl, rfl⟩
theorem pdq_none (p : Option Addr) (c : Nat) (lim : Int) (fv : Value) (w : World) :
    Calls Tryz.prog 84 #[.slice p 0 c, .int .i64 0, .int .i64 0, .int .i64 lim, fv] w fun e w' => e = .returned (.tuple #[]) ∧ w' = w := by
  have hi := Lib.hid fun W => ins_none p c fv W
  go_enter Tryz.func84, Tryz.ntmps84
  go_wp2
  refine wp_loop_rounds 1 ?_
  rw [rounds_succ]
  go_wp2_with (go_at_call 89; refine (hi.out _).mono ?_; rintro e w' ⟨rfl, rfl⟩)
  (try simp only [Exit.inBlock, Exit.then])
  refine bodyPost_ret (results_none rfl _ _ _) rfl ?_
  exact ⟨rfl, rfl⟩
theorem sort_none (p : Option Addr) (c : Nat) (fv : Value) (w : World) :
    Calls Tryz.prog 75 #[.slice p 0 c, fv] w fun e w' => e = .returned (.tuple #[]) ∧ w' = w := by
  have hp := Lib.hid fun lim W => pdq_none p c lim fv W
  have hl : ∀ W, Calls Tryz.prog 85 #[.int .u64 0] W fun e w' => (∃ n : Int, e = .returned (.int .i64 n)) ∧ w' = W := fun W => by
    have h := Any.bits_Len (SlLaysF0.n15.bits { Tryz.sortV with }) 0 W (by omega) (by omega)
    change Calls Tryz.prog 85 _ _ _ at h
    exact h.mono fun _ _ h => ⟨⟨_, h.1⟩, h.2⟩
  have Hl := Lib.hid hl
  clear hl
  go_enter Tryz.func75, Tryz.ntmps75
  go_wp2_with (first | (go_at_call 85; refine (Hl.out _).mono ?_; rintro e w' ⟨⟨n, rfl⟩, rfl⟩) | (go_at_call 84; refine (hp.out _ _).mono ?_; rintro e w' ⟨rfl, rfl⟩))
  go_end0
  exact ⟨rfl, rfl⟩
theorem clone_any (R : Option Addr) (m c : Nat) (L : List Vl) (w : World) (hV : Wd.Vs w R m c L) (hL : L.length ≤ 4096) :
    Calls Tryz.prog 74 #[.slice R m c] w fun e w' => ∃ v, e = .returned v ∧ w'.ownsRow w.heap.size 34 4 v L.length (Wd.flatV L) ∧ Below w.heap.size w w' := by
  rcases R with _ | ad
  · have hc := hV.nil rfl
    have hm : m = 0 := by have := hV.cap; omega
    have hl : L = [] := List.eq_nil_of_length_eq_zero (by rw [← hV.len]; exact hm)
    subst hc hm hl
    have hnil : ∀ (w : World) (n c : Nat), (binOp .eql 22 (.slice none n c) (.slice none 0 0)).run Tryz.prog w = .ok (.bool true) w := fun _ _ _ => by kernel_rfl
    clear hV
    go_enter Tryz.func74, Tryz.ntmps74
    go_wp2
    go_ret
    exact ⟨_, rfl, World.ownsRow_nil _ _ _ _, Below.refl _ _⟩
  · have hnil : ∀ (w : World) (n c : Nat) , (binOp .eql 22 (.slice (some ad) n c) (.slice none 0 0)).run Tryz.prog w = .ok (.bool false) w := fun _ _ _ => by kernel_rfl
    have hb := (Below.refl w.heap.size w).alloc (Nat.le_refl _) (.cells #[] 34)
    have HV := Lib.hid (hV.below hb)
    have ho := World.ownsRow_lit (e := 34) (size := 4) (base := w.heap.size) w #[] 0 (Nat.le_refl _) (by simp [maxLen]) rfl
    clear hV
    go_enter Tryz.func74, Tryz.ntmps74
    go_wp2_with (at_builtin; refine Wd.wpList_appVs _ rfl (.tmp 5) (.tmp 6) rfl w.heap.size (.slice (some ⟨w.heap.size, 0, none⟩) 0 0) [] rfl ho (some ad) m c L rfl HV.out (by simp; omega) (by simp) ?_; intro v' w1 hown hg)
    go_ret
    exact ⟨v', rfl, by simpa using hown, hb.grown hg (by simp) (by simp [Value.ownBlock])⟩
end Ds
end Go.Proofs.YtnhgijlhnamolaaGreatDoor
