/- slices.SortFunc of a row of values of the call's own, by value.Order: in plain words. -/
import Derived.Test.YtiokajaadmfohaaDcIfc
import Derived.Test.YtiokajaadmfohaaVaOrderG
import Derived.Test.YtiokajaadmfohaaDtLay
import Derived.Shelf.SlSortCmp.WholeK
namespace Go.Proofs.Ytiokajaadmfohaa
set_option maxRecDepth 20000
open Go.RowKit Go.Sort Go.Shelf Go.Lib
namespace Ds
open Va (Vl May ord null)
open Dc Dx
theorem ltOf_iff (x y : Vl) : ltOf ord x y = true ↔ ord x y < 0 := by unfold ltOf; simp
theorem ltOf_no (x y : Vl) : ltOf ord x y = false ↔ ¬ ord x y < 0 := by unfold ltOf; simp
theorem swo : SWO (ltOf ord) where
  irrefl x := (ltOf_no x x).2 (lt_irrefl x)
  trans x y z h1 h2 := (ltOf_iff x z).2 (lt_trans ((ltOf_iff x y).1 h1) ((ltOf_iff y z).1 h2))
  ntrans x y z h1 h2 := by
    rw [ltOf_no] at *
    have n1 := Va.ord_neg y x
    have n2 := Va.ord_neg z y
    have n3 := Va.ord_neg z x
    have := Va.ord_le_trans (a := z) (b := y) (c := x) (by omega) (by omega)
    omega
theorem lays (blk off size : Nat) (w : World) : CmpLays Try.prog 32 #[] Wd.vals 4 ord blk off size w :=
  fun _ _ _ _ x y => (Vc.order_grow x.kind x.i x.s x.b y.kind y.i y.s y.b _).mono fun _ _ h => ⟨h.1, Vc.grow_of h.2.1 h.2.2⟩
/-- A row of the call's own holds its list. -/
theorem holds {w : World} {B g n c : Nat} {L : List Vl} (h : w.ownsRow B 24 4 (.slice (some ⟨g, 0, none⟩) n c) n (Wd.flatV L)) : HoldsK Wd.vals 4 w g 0 L.toArray := by
  rcases h.2 with ⟨h', _⟩ | ⟨g', cap', cur, h', hb, hg, h2, h3, h4, h5⟩
  · cases h'
  · simp only [Value.slice.injEq, Option.some.injEq, Addr.mk.injEq, and_true, true_and] at h'
    obtain ⟨rfl, rfl⟩ := h'
    intro j hj
    rw [size_flatK] at hj
    have hj2 : j < L.length * 4 := by simpa using hj
    have hfl : (flatK Wd.vals 4 L.toArray)[j]! = (Wd.vals (L.getD (j / 4) default))[j % 4]! := by
      rw [get_flatK _ _ _ _ hj]
      congr 2
      simp [List.getD]
    have hi : (Wd.vals (L.getD (j / 4) default))[j % 4]? = some ((Wd.vals (L.getD (j / 4) default))[j % 4]!) := by
      have : j % 4 < (Wd.vals (L.getD (j / 4) default)).length := by simp [Wd.vals]; omega
      rw [List.getElem!_eq_getElem?_getD, List.getElem?_eq_getElem this]
      rfl
    have hf := Wd.flatV_get L (j / 4) (by omega) (j % 4) _ hi
    rw [show j / 4 * 4 + j % 4 = j by omega] at hf
    refine ⟨?_, ?_⟩
    · rw [Nat.zero_add, h.cellAt j (by have := h.1; rw [Wd.flatV_len] at this; omega), hf, hfl]
      rfl
    · unfold World.frozen?
      simp only [hg]
      simp
/-- What holds a list is a slice of it. -/
theorem vs_of {w : World} {g n c : Nat} {L : List Vl} (h : HoldsK Wd.vals 4 w g 0 L.toArray) (hg : g < w.heap.size) (hn : n = L.length) (hc : n ≤ c) (hm : c ≤ maxLen) (h1 : ∀ j, j < L.length → Wd.V1 (L.getD j default)) : Wd.Vs w (some ⟨g, 0, none⟩) n c L :=
  ⟨hn, hc, hm, by simp, fun j hj => ⟨g, 0, rfl, hg, fun i v hv => by
    have hi : i < 4 := by have := (List.getElem?_eq_some_iff.1 hv).1; simpa [Wd.vals] using this
    have := (h.cell (i := j) (c := i) (by simpa using hj) hi).1
    rw [show 0 + j * 4 + i = 0 + (j * 4 + i) by omega] at this
    rw [this]
    have e : L.toArray[j]! = L.getD j default := by simp [List.getD]
    rw [e, ← hv, List.getElem!_eq_getElem?_getD, List.getElem?_eq_getElem (by simpa [Wd.vals] using hi)]
    rfl, h1 j hj⟩⟩
/-- Sorted, as a list. -/
theorem sorted_list {L : List Vl} {d' : Array Vl} (hm : ∀ x ∈ L, May x) (hn : L.Nodup) (hp : PermIn 0 L.toArray.size L.toArray d') (hs : SortedIn (ltOf ord) 0 L.toArray.size d') : d'.toList = srt L := by
  obtain ⟨h1, _, h3⟩ := hp
  have h1' : d'.size = L.length := by simpa using h1
  have e1 : (d'.extract 0 L.toArray.size).toList = d'.toList := by
    rw [show L.toArray.size = d'.size from h1.symm]
    simp
  have e2 : (L.toArray.extract 0 L.toArray.size).toList = L := by simp
  rw [e1, e2] at h3
  refine srt_only hm hn h3 ?_
  rw [List.pairwise_iff_getElem]
  intro i j hi hj hij
  have := hs i j (Nat.zero_le _) hij (by simpa [← h1'] using hj)
  rw [ltOf_no] at this
  have a1 : d'[i]! = d'.toList[i] := by rw [getElem!_pos d' i (by simpa using hi)]; simp
  have a2 : d'[j]! = d'.toList[j] := by rw [getElem!_pos d' j (by simpa using hj)]; simp
  rw [a1, a2] at this
  have n := Va.ord_neg (d'.toList[j]) (d'.toList[i])
  omega
theorem isAggV (w : World) : (isAgg 24).run Try.prog w = .ok true w := Try.isAgg24 w
theorem sizeV (w : World) : (Go.sizeOf 24).run Try.prog w = .ok 4 w := Try.sizeOf24 w
/-- The sort of a row of values. -/
theorem sort_any (B g n c : Nat) (L : List Vl) (w : World) (hown : w.ownsRow B 24 4 (.slice (some ⟨g, 0, none⟩) n c) n (Wd.flatV L)) (h1 : ∀ x ∈ L, Wd.V1 x) (hm : ∀ x ∈ L, May x) (hn : L.Nodup) (hl : L.length ≤ 4096) :
    Calls Try.prog 31 #[.slice (some ⟨g, 0, none⟩) n c, .func (.func 32) #[] #[]] w fun e w' => e = .returned (.tuple #[]) ∧ Wd.Vs w' (some ⟨g, 0, none⟩) n c (srt L) ∧ w.grownBy w' (some g) := by
  have hlen : n = L.length := by have := hown.1; rw [Wd.flatV_len] at this; omega
  have eg : ∀ args w, (callFunc 32 args).run Try.prog w = .ok (.enter 32 args) w := enters_of Try.func32 (by kernel_rfl) rfl
  have hH := holds hown
  have hg : g < w.heap.size := (Wd.own_lt hown (x := g) rfl).1
  have hcc : n ≤ c ∧ c ≤ maxLen := by
    rcases hown.2 with ⟨h', _⟩ | ⟨g', cap', cur, h', hb, hg, h2, h3, h4, h5⟩
    · cases h'
    · simp only [Value.slice.injEq] at h'
      obtain ⟨_, _, rfl⟩ := h'
      exact ⟨h2, h3⟩
  have hcon := AnyQ.slices_SortFunc Try.sortV 4 isAggV sizeV Wd.vals (fun _ => rfl) (fun x v hv => Wd.vals_one x v hv) ord swo 32 #[] g 0 c L.toArray w eg (lays g 0 L.toArray.size w) hH hg (by simp; omega)
  change Calls Try.prog 31 _ _ _ at hcon
  rw [show L.toArray.size = n by simp [hlen]] at hcon
  refine hcon.mono ?_
  rintro e w' ⟨rfl, d', q, os, hp, hs, rfl⟩
  have hd : d'.toList = srt L := sorted_list hm hn (by rw [show L.toArray.size = n by simp [hlen]]; exact hp) (by rw [show L.toArray.size = n by simp [hlen]]; exact hs)
  have hds : d' = (srt L).toArray := by rw [← hd]
  subst hds
  refine ⟨rfl, ?_, ?_⟩
  · refine vs_of (holdsK_sortWorldK_c Wd.vals 4 w g 0 L.toArray _ q os hH hg (by simp [srt_len])) ?_ (by rw [srt_len]; exact hlen) hcc.1 hcc.2 fun j hj => h1 _ ?_
    · unfold sortWorldK
      rw [size_grow]
      have : (putRowK Wd.vals 4 (Sort.ahead w q) g 0 (srt L).toArray).heap.size = w.heap.size := by simp [putRowK, putRow, mapBlock]
      omega
    · rw [← srt_mem L, List.getD_eq_getElem?_getD, List.getElem?_eq_getElem hj]
      exact List.getElem_mem hj
  · refine ⟨rfl, rfl, rfl, by simp [sortWorldK, putRowK, putRow, mapBlock], fun j hj hne => ?_⟩
    unfold sortWorldK
    rw [heap_grow_old _ _ (by simpa [putRowK, putRow, mapBlock] using hj)]
    have : g ≠ j := fun e => hne (by rw [e])
    simp [putRowK, putRow, mapBlock, Sort.ahead, Array.getElem?_modify, this]
end Ds
end Go.Proofs.Ytiokajaadmfohaa
