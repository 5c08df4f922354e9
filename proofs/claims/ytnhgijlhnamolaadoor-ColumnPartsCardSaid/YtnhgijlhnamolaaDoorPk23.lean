/- What slices.SortFunc is at this program: the numbers of what the library speaks of, as its contract asks them. slices.SortFunc of a row of values of the call's own, by value.Order: in plain words. slices.Clone of a slice of values; slices.SortFunc of no values. -/
import Derived.Shelf.SlSortCmp.WholeK
import Derived.Ground.SlsfProg
import Derived.WalkKit
import Derived.Test.YtnhgijlhnamolaaDoorProg
import Derived.Test.YtnhgijlhnamolaaDoorPk11
import Derived.Test.YtnhgijlhnamolaaDoorPk22
import Derived.Test.YtnhgijlhnamolaaDoorPk10
namespace Go.Proofs.YtnhgijlhnamolaaDoor
open Go.Shelf
def Tryd.sortV_ren : Go.Shelf.Ren := ⟨fun | 6 => 73 | 15 => 87 | 14 => 86 | 28 => 106 | 29 => 107 | 20 => 98 | 21 => 99 | 22 => 100 | 23 => 101 | 24 => 102 | 25 => 103 | 26 => 104 | 27 => 105 | 46 => 112 | 47 => 113 | 48 => 114 | 49 => 115 | 50 => 116 | 57 => 118 | n => n, fun | 22 => 22 | 24 => 48 | 25 => 52 | 3 => 3 | 39 => 102 | 0 => 0 | 53 => 135 | 55 => 78 | 4 => 4 | 46 => 129 | 45 => 128 | 50 => 106 | 5 => 5 | 9 => 9 | 66 => 138 | 70 => 142 | 76 => 144 | 77 => 145 | n => n, fun | n => n⟩
theorem Tryd.sortV : Go.Proofs.SlLaysF0.n6 Tryd.prog Tryd.sortV_ren := {
  mixed := by kernel_rfl
  f6 := ⟨Tryd.f73.name, by decide, Tryd.func73.trans (congrArg some (by kernel_rfl))⟩
  f14 := ⟨Tryd.f86.name, by decide, Tryd.func86.trans (congrArg some (by kernel_rfl))⟩
  f15 := Tryd.func87.trans (congrArg some (by kernel_rfl))
  f20 := ⟨Tryd.f98.name, by decide, Tryd.func98.trans (congrArg some (by kernel_rfl))⟩
  f21 := ⟨Tryd.f99.name, by decide, Tryd.func99.trans (congrArg some (by kernel_rfl))⟩
  f22 := ⟨Tryd.f100.name, by decide, Tryd.func100.trans (congrArg some (by kernel_rfl))⟩
  f23 := ⟨Tryd.f101.name, by decide, Tryd.func101.trans (congrArg some (by kernel_rfl))⟩
  f24 := ⟨Tryd.f102.name, by decide, Tryd.func102.trans (congrArg some (by kernel_rfl))⟩
  f25 := ⟨Tryd.f103.name, by decide, Tryd.func103.trans (congrArg some (by kernel_rfl))⟩
  f26 := ⟨Tryd.f104.name, by decide, Tryd.func104.trans (congrArg some (by kernel_rfl))⟩
  f27 := ⟨Tryd.f105.name, by decide, Tryd.func105.trans (congrArg some (by kernel_rfl))⟩
  f28 := Tryd.func106.trans (congrArg some (by kernel_rfl))
  f29 := Tryd.func107.trans (congrArg some (by kernel_rfl))
  f46 := ⟨Tryd.f112.name, by decide, Tryd.func112.trans (congrArg some (by kernel_rfl))⟩
  f47 := Tryd.func113.trans (congrArg some (by kernel_rfl))
  f48 := Tryd.func114.trans (congrArg some (by kernel_rfl))
  f49 := ⟨Tryd.f115.name, by decide, Tryd.func115.trans (congrArg some (by kernel_rfl))⟩
  f50 := ⟨Tryd.f116.name, by decide, Tryd.func116.trans (congrArg some (by kernel_rfl))⟩
  f57 := ⟨Tryd.f118.name, by decide, Tryd.func118.trans (congrArg some (by kernel_rfl))⟩
  t0 := Tryd.underlying0
  a0 := Tryd.isAgg0
  z0 := Tryd.sizeOf0
  v0 := Tryd.zeroValue0
  t3 := Tryd.underlying3
  a3 := Tryd.isAgg3
  z3 := Tryd.sizeOf3
  v3 := Tryd.zeroValue3
  t4 := Tryd.underlying4
  a4 := Tryd.isAgg4
  z4 := Tryd.sizeOf4
  v4 := Tryd.zeroValue4
  t5 := Tryd.underlying5
  a5 := Tryd.isAgg5
  z5 := Tryd.sizeOf5
  v5 := Tryd.zeroValue5
  t9 := Tryd.underlying9
  a9 := Tryd.isAgg9
  z9 := Tryd.sizeOf9
  v9 := Tryd.zeroValue9
  t22 := Tryd.underlying22
  a22 := Tryd.isAgg22
  z22 := Tryd.sizeOf22
  v22 := Tryd.zeroValue22
  t25 := Tryd.underlying52
  a25 := Tryd.isAgg52
  z25 := Tryd.sizeOf52
  v25 := Tryd.zeroValue52
  t39 := Tryd.underlying102
  a39 := Tryd.isAgg102
  z39 := Tryd.sizeOf102
  v39 := Tryd.zeroValue102
  t45 := Tryd.underlying128
  a45 := Tryd.isAgg128
  z45 := Tryd.sizeOf128
  v45 := Tryd.zeroValue128
  t46 := Tryd.underlying129
  a46 := Tryd.isAgg129
  z46 := Tryd.sizeOf129
  v46 := Tryd.zeroValue129
  t50 := Tryd.underlying106
  a50 := Tryd.isAgg106
  z50 := Tryd.sizeOf106
  v50 := Tryd.zeroValue106
  t53 := Tryd.underlying135
  a53 := Tryd.isAgg135
  z53 := Tryd.sizeOf135
  v53 := Tryd.zeroValue135
  t55 := Tryd.underlying78
  a55 := Tryd.isAgg78
  z55 := Tryd.sizeOf78
  v55 := Tryd.zeroValue78
  t66 := Tryd.underlying138
  a66 := Tryd.isAgg138
  z66 := Tryd.sizeOf138
  v66 := Tryd.zeroValue138
  t70 := Tryd.underlying142
  a70 := Tryd.isAgg142
  z70 := Tryd.sizeOf142
  v70 := Tryd.zeroValue142
  t76 := Tryd.underlying144
  a76 := Tryd.isAgg144
  z76 := Tryd.sizeOf144
  v76 := Tryd.zeroValue144
  t77 := Tryd.underlying145
  a77 := Tryd.isAgg145
  z77 := Tryd.sizeOf145
  v77 := Tryd.zeroValue145 }
end Go.Proofs.YtnhgijlhnamolaaDoor
namespace Go.Proofs.YtnhgijlhnamolaaDoor
set_option maxRecDepth 20000
open Go.RowKit Go.Sort Go.Shelf Go.Lib
namespace Ds
open Va (Vl May ord null)
open Dc Dx
theorem ltOf_iff (x y : Vl) : ltOf ord x y = true ↔ ord x y < 0 := by unfold ltOf; simp
theorem ltOf_no (x y : Vl) : ltOf ord x y = false ↔ ¬ ord x y < 0 := by unfold ltOf; simp
theorem swo : SWO (ltOf ord) where
  irrefl x := (ltOf_no x x).2 (lt_irrefl x)
  trans x y z h1 h2 := (ltOf_iff x z).2 (lt_trans ((ltOf_iff x y).1 h1) ((ltOf_iff y z).1 h2))
  ntrans x y z h1 h2 := by
    rw [ltOf_no] at *
    have n1 := Va.ord_neg y x
    have n2 := Va.ord_neg z y
    have n3 := Va.ord_neg z x
    have := Va.ord_le_trans (a := z) (b := y) (c := x) (by omega) (by omega)
    omega
theorem lays (blk off size : Nat) (w : World) : CmpLays Tryd.prog 74 #[] Wd.vals 4 ord blk off size w :=
  fun _ _ _ _ x y => (Vc.order_grow x.kind x.i x.s x.b y.kind y.i y.s y.b _).mono fun _ _ h => ⟨h.1, Vc.grow_of h.2.1 h.2.2⟩
/-- A row of the call's own holds its list. -/
theorem holds {w : World} {B g n c : Nat} {L : List Vl} (h : w.ownsRow B 48 4 (.slice (some ⟨g, 0, none⟩) n c) n (Wd.flatV L)) : HoldsK Wd.vals 4 w g 0 L.toArray := by
  rcases h.2 with ⟨h', _⟩ | ⟨g', cap', cur, h', hb, hg, h2, h3, h4, h5⟩
  · cases h'
  · simp only [Value.slice.injEq, Option.some.injEq, Addr.mk.injEq, and_true, true_and] at h'
    obtain ⟨rfl, rfl⟩ := h'
    intro j hj
    rw [size_flatK] at hj
    have hj2 : j < L.length * 4 := by simpa using hj
    have hfl : (flatK Wd.vals 4 L.toArray)[j]! = (Wd.vals (L.getD (j / 4) default))[j % 4]! := by
      rw [get_flatK _ _ _ _ hj]
      congr 2
      simp [List.getD]
    have hi : (Wd.vals (L.getD (j / 4) default))[j % 4]? = some ((Wd.vals (L.getD (j / 4) default))[j % 4]!) := by
      have : j % 4 < (Wd.vals (L.getD (j / 4) default)).length := by simp [Wd.vals]; omega
      rw [List.getElem!_eq_getElem?_getD, List.getElem?_eq_getElem this]
      rfl
    have hf := Wd.flatV_get L (j / 4) (by omega) (j % 4) _ hi
    rw [show j / 4 * 4 + j % 4 = j by omega] at hf
    refine ⟨?_, ?_⟩
    · rw [Nat.zero_add, h.cellAt j (by have := h.1; rw [Wd.flatV_len] at this; omega), hf, hfl]
      rfl
    · unfold World.frozen?
      simp only [hg]
      simp
/-- What holds a list is a slice of it. -/
theorem vs_of {w : World} {g n c : Nat} {L : List Vl} (h : HoldsK Wd.vals 4 w g 0 L.toArray) (hg : g < w.heap.size) (hn : n = L.length) (hc : n ≤ c) (hm : c ≤ maxLen) (h1 : ∀ j, j < L.length → Wd.V1 (L.getD j default)) : Wd.Vs w (some ⟨g, 0, none⟩) n c L :=
  ⟨hn, hc, hm, by simp, fun j hj => ⟨g, 0, rfl, hg, fun i v hv => by
    have hi : i < 4 := by have := (List.getElem?_eq_some_iff.1 hv).1; simpa [Wd.vals] using this
    have := (h.cell (i := j) (c := i) (by simpa using hj) hi).1
    rw [show 0 + j * 4 + i = 0 + (j * 4 + i) by omega] at this
    rw [this]
    have e : L.toArray[j]! = L.getD j default := by simp [List.getD]
    rw [e, ← hv, List.getElem!_eq_getElem?_getD, List.getElem?_eq_getElem (by simpa [Wd.vals] using hi)]
    rfl, h1 j hj⟩⟩
/-- Sorted, as a list. -/
theorem sorted_list {L : List Vl} {d' : Array Vl} (hm : ∀ x ∈ L, May x) (hn : L.Nodup) (hp : PermIn 0 L.toArray.size L.toArray d') (hs : SortedIn (ltOf ord) 0 L.toArray.size d') : d'.toList = srt L := by
  obtain ⟨h1, _, h3⟩ := hp
  have h1' : d'.size = L.length := by simpa using h1
  have e1 : (d'.extract 0 L.toArray.size).toList = d'.toList := by
    rw [show L.toArray.size = d'.size from h1.symm]
    simp
  have e2 : (L.toArray.extract 0 L.toArray.size).toList = L := by simp
  rw [e1, e2] at h3
  refine srt_only hm hn h3 ?_
  rw [List.pairwise_iff_getElem]
  intro i j hi hj hij
  have := hs i j (Nat.zero_le _) hij (by simpa [← h1'] using hj)
  rw [ltOf_no] at this
  have a1 : d'[i]! = d'.toList[i] := by rw [getElem!_pos d' i (by simpa using hi)]; simp
  have a2 : d'[j]! = d'.toList[j] := by rw [getElem!_pos d' j (by simpa using hj)]; simp
  rw [a1, a2] at this
  have n := Va.ord_neg (d'.toList[j]) (d'.toList[i])
  omega
theorem isAggV (w : World) : (isAgg 48).run Tryd.prog w = .ok true w := Tryd.isAgg48 w
theorem sizeV (w : World) : (Go.sizeOf 48).run Tryd.prog w = .ok 4 w := Tryd.sizeOf48 w
/-- The sort of a row of values. -/
theorem sort_any (B g n c : Nat) (L : List Vl) (w : World) (hown : w.ownsRow B 48 4 (.slice (some ⟨g, 0, none⟩) n c) n (Wd.flatV L)) (h1 : ∀ x ∈ L, Wd.V1 x) (hm : ∀ x ∈ L, May x) (hn : L.Nodup) (hl : L.length ≤ 4096) :
    Calls Tryd.prog 73 #[.slice (some ⟨g, 0, none⟩) n c, .func (.func 74) #[] #[]] w fun e w' => e = .returned (.tuple #[]) ∧ Wd.Vs w' (some ⟨g, 0, none⟩) n c (srt L) ∧ w.grownBy w' (some g) := by
  have hlen : n = L.length := by have := hown.1; rw [Wd.flatV_len] at this; omega
  have eg : ∀ args w, (callFunc 74 args).run Tryd.prog w = .ok (.enter 74 args) w := enters_of Tryd.func74 (by kernel_rfl) rfl
  have hH := holds hown
  have hg : g < w.heap.size := (Wd.own_lt hown (x := g) rfl).1
  have hcc : n ≤ c ∧ c ≤ maxLen := by
    rcases hown.2 with ⟨h', _⟩ | ⟨g', cap', cur, h', hb, hg, h2, h3, h4, h5⟩
    · cases h'
    · simp only [Value.slice.injEq] at h'
      obtain ⟨_, _, rfl⟩ := h'
      exact ⟨h2, h3⟩
  have hcon := AnyQ.slices_SortFunc Tryd.sortV 4 isAggV sizeV Wd.vals (fun _ => rfl) (fun x v hv => Wd.vals_one x v hv) ord swo 74 #[] g 0 c L.toArray w eg (lays g 0 L.toArray.size w) hH hg (by simp; omega)
  change Calls Tryd.prog 73 _ _ _ at hcon
  rw [show L.toArray.size = n by simp [hlen]] at hcon
  refine hcon.mono ?_
  rintro e w' ⟨rfl, d', q, os, hp, hs, rfl⟩
  have hd : d'.toList = srt L := sorted_list hm hn (by rw [show L.toArray.size = n by simp [hlen]]; exact hp) (by rw [show L.toArray.size = n by simp [hlen]]; exact hs)
  have hds : d' = (srt L).toArray := by rw [← hd]
  subst hds
  refine ⟨rfl, ?_, ?_⟩
  · refine vs_of (holdsK_sortWorldK_c Wd.vals 4 w g 0 L.toArray _ q os hH hg (by simp [srt_len])) ?_ (by rw [srt_len]; exact hlen) hcc.1 hcc.2 fun j hj => h1 _ ?_
    · unfold sortWorldK
      rw [size_grow]
      have : (putRowK Wd.vals 4 (Sort.ahead w q) g 0 (srt L).toArray).heap.size = w.heap.size := by simp [putRowK, putRow, mapBlock]
      omega
    · rw [← srt_mem L, List.getD_eq_getElem?_getD, List.getElem?_eq_getElem hj]
      exact List.getElem_mem hj
  · refine ⟨rfl, rfl, rfl, by simp [sortWorldK, putRowK, putRow, mapBlock], fun j hj hne => ?_⟩
    unfold sortWorldK
    rw [heap_grow_old _ _ (by simpa [putRowK, putRow, mapBlock] using hj)]
    have : g ≠ j := fun e => hne (by rw [e])
    simp [putRowK, putRow, mapBlock, Sort.ahead, Array.getElem?_modify, this]
end Ds
end Go.Proofs.YtnhgijlhnamolaaDoor
namespace Go.Proofs.YtnhgijlhnamolaaDoor
set_option maxRecDepth 20000
open Go.RowKit Go.Shelf
namespace Ds
open Va (Vl May ord null)
open Dc Dx
theorem ins_none (p : Option Addr) (c : Nat) (fv : Value) (w : World) :
    Calls Tryd.prog 98 #[.slice p 0 c, .int .i64 0, .int .i64 0, fv] w fun e w' => e = .returned (.tuple #[]) ∧ w' = w := by
  go_enter Tryd.func98, Tryd.ntmps98
  go_wp2
  refine wp_loop_rounds 1 ?_
  rw [rounds_succ]
  go_wp2
  go_end0
  exact ⟨rfl, rfl⟩
theorem pdq_none (p : Option Addr) (c : Nat) (lim : Int) (fv : Value) (w : World) :
    Calls Tryd.prog 86 #[.slice p 0 c, .int .i64 0, .int .i64 0, .int .i64 lim, fv] w fun e w' => e = .returned (.tuple #[]) ∧ w' = w := by
  have hi := Lib.hid fun W => ins_none p c fv W
  go_enter Tryd.func86, Tryd.ntmps86
  go_wp2
  refine wp_loop_rounds 1 ?_
  rw [rounds_succ]
  go_wp2_with (go_at_call 98; refine (hi.out _).mono ?_; rintro e w' ⟨rfl, rfl⟩)
  (try simp only [Exit.inBlock, Exit.then])
  refine bodyPost_ret (results_none rfl _ _ _) rfl ?_
  exact ⟨rfl, rfl⟩
theorem sort_none (p : Option Addr) (c : Nat) (fv : Value) (w : World) :
    Calls Tryd.prog 73 #[.slice p 0 c, fv] w fun e w' => e = .returned (.tuple #[]) ∧ w' = w := by
  have hp := Lib.hid fun lim W => pdq_none p c lim fv W
  have hl : ∀ W, Calls Tryd.prog 87 #[.int .u64 0] W fun e w' => (∃ n : Int, e = .returned (.int .i64 n)) ∧ w' = W := fun W => by
    have h := Any.bits_Len (SlLaysF0.n15.bits { Tryd.sortV with }) 0 W (by omega) (by omega)
    change Calls Tryd.prog 87 _ _ _ at h
    exact h.mono fun _ _ h => ⟨⟨_, h.1⟩, h.2⟩
  have Hl := Lib.hid hl
  clear hl
  go_enter Tryd.func73, Tryd.ntmps73
  go_wp2_with (first | (go_at_call 87; refine (Hl.out _).mono ?_; rintro e w' ⟨⟨n, rfl⟩, rfl⟩) | (go_at_call 86; refine (hp.out _ _).mono ?_; rintro e w' ⟨rfl, rfl⟩))
  go_end0
  exact ⟨rfl, rfl⟩
theorem clone_any (R : Option Addr) (m c : Nat) (L : List Vl) (w : World) (hV : Wd.Vs w R m c L) (hL : L.length ≤ 4096) :
    Calls Tryd.prog 72 #[.slice R m c] w fun e w' => ∃ v, e = .returned v ∧ w'.ownsRow w.heap.size 48 4 v L.length (Wd.flatV L) ∧ Below w.heap.size w w' := by
  rcases R with _ | ad
  · have hc := hV.nil rfl
    have hm : m = 0 := by have := hV.cap; omega
    have hl : L = [] := List.eq_nil_of_length_eq_zero (by rw [← hV.len]; exact hm)
    subst hc hm hl
    have hnil : ∀ (w : World) (n c : Nat), (binOp .eql 22 (.slice none n c) (.slice none 0 0)).run Tryd.prog w = .ok (.bool true) w := fun _ _ _ => by kernel_rfl
    clear hV
    go_enter Tryd.func72, Tryd.ntmps72
    go_wp2
    go_ret
    exact ⟨_, rfl, World.ownsRow_nil _ _ _ _, Below.refl _ _⟩
  · have hnil : ∀ (w : World) (n c : Nat) , (binOp .eql 22 (.slice (some ad) n c) (.slice none 0 0)).run Tryd.prog w = .ok (.bool false) w := fun _ _ _ => by kernel_rfl
    have hb := (Below.refl w.heap.size w).alloc (Nat.le_refl _) (.cells #[] 48)
    have HV := Lib.hid (hV.below hb)
    have ho := World.ownsRow_lit (e := 48) (size := 4) (base := w.heap.size) w #[] 0 (Nat.le_refl _) (by simp [maxLen]) rfl
    clear hV
    go_enter Tryd.func72, Tryd.ntmps72
    go_wp2_with (at_builtin; refine Wd.wpList_appVs _ rfl (.tmp 5) (.tmp 6) rfl w.heap.size (.slice (some ⟨w.heap.size, 0, none⟩) 0 0) [] rfl ho (some ad) m c L rfl HV.out (by simp; omega) (by simp) ?_; intro v' w1 hown hg)
    go_ret
    exact ⟨v', rfl, by simpa using hown, hb.grown hg (by simp) (by simp [Value.ownBlock])⟩
end Ds
end Go.Proofs.YtnhgijlhnamolaaDoor
