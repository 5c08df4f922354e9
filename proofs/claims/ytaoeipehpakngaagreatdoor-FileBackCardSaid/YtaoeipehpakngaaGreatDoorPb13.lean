/- What the reference of layer 8 does: Find, Place, Rises, Search. What the reference of layer 8 does: Sorted. What the comparisons of layer 1's reference do: Same (bytes), Ints (integers). What cmp.Compare does at numbers, texts and bytes, and cmp.Or. -/
import Derived.Deep.RegionWith
import Derived.Deep.RegionHeld3
import Derived.BigRegion
import Derived.IntWalk
import Derived.BigQuiet
import Derived.Deep.QuietTactic
import Derived.WalkKit
import Derived.WalkSpells
import Derived.Lib.Hide
import Derived.WalkLawsBesides
import Derived.Test.YtaoeipehpakngaaGreatDoorPb03
import Derived.Test.YtaoeipehpakngaaGreatDoorPb12
import Derived.Test.YtaoeipehpakngaaGreatDoorPb09
import Derived.Test.YtaoeipehpakngaaGreatDoorPb10
import Derived.Test.YtaoeipehpakngaaGreatDoorPb07
import Derived.Test.YtaoeipehpakngaaGreatDoorProg
import Derived.Test.YtaoeipehpakngaaGreatDoorPb01
namespace Go.Proofs.YtaoeipehpakngaaGreatDoor
set_option maxRecDepth 20000
open Go.RowKit
namespace Dc
open Va (Vl May ord)
open Sc (tr tr_yes tr_no)
theorem getD_at {vs : List Vl} {k : Nat} (h : k < vs.length) : vs[k]? = some (vs.getD k default) := by simp [List.getD, List.getElem?_eq_getElem h]
theorem getD_mem {vs : List Vl} {k : Nat} (h : k < vs.length) : vs.getD k default ∈ vs := List.mem_of_getElem? (getD_at h)
theorem drop_at {vs : List Vl} {k : Nat} (h : k < vs.length) : vs.drop k = vs.getD k default :: vs.drop (k + 1) := by
  rw [List.getD_eq_getElem?_getD, List.getElem?_eq_getElem h]
  exact List.drop_eq_getElem_cons h
theorem fnd_step {vs : List Vl} {v : Vl} {k : Nat} (h : k < vs.length) : fndF (vs.drop k) v (k : Int) = if vs.getD k default = v then (k : Int) else fndF (vs.drop (k + 1)) v ((k + 1 : Nat) : Int) := by
  rw [drop_at h, fndF]
  by_cases q : vs.getD k default = v
  · rw [if_pos q, if_pos q]
  · rw [if_neg q, if_neg q]
    rfl
theorem place_take {vs : List Vl} {v : Vl} {k : Nat} (h : k < vs.length) : place (vs.take (k + 1)) v = place (vs.take k) v + (if ord (vs.getD k default) v < 0 then 1 else 0) := by
  rw [List.take_add_one, getD_at h]
  unfold place
  rw [List.countP_append]
  simp [List.countP_cons]
theorem ris_iff (vs : List Vl) : Ris vs ↔ ∀ i, i < vs.length → May (vs.getD i default) ∧ (0 < i → ord (vs.getD (i - 1) default) (vs.getD i default) < 0) := by
  constructor
  · intro h i hi
    refine ⟨h.1 _ (getD_mem hi), fun h0 => ?_⟩
    have := (List.pairwise_iff_getElem.1 h.2) (i - 1) i (by omega) hi (by omega)
    simpa [List.getD, List.getElem?_eq_getElem hi, List.getElem?_eq_getElem (show i - 1 < vs.length by omega)] using this
  · intro h
    refine ⟨fun x hx => ?_, ?_⟩
    · obtain ⟨i, hi⟩ := List.getElem?_of_mem hx
      have hl := (List.getElem?_eq_some_iff.1 hi).1
      have := (h i hl).1
      rw [getD_at hl] at hi
      rw [Option.some.inj hi] at this
      exact this
    · have key : ∀ (n i : Nat), i + (n + 1) < vs.length → ord (vs.getD i default) (vs.getD (i + (n + 1)) default) < 0 := by
        intro n
        induction n with
        | zero => intro i hi; simpa using (h (i + 1) (by omega)).2 (by omega)
        | succ n ih =>
          intro i hi
          have h1 := ih i (by omega)
          have h2 := (h (i + (n + 1 + 1)) hi).2 (by omega)
          rw [show i + (n + 1 + 1) - 1 = i + (n + 1) by omega] at h2
          exact lt_trans h1 h2
      unfold Up
      rw [List.pairwise_iff_getElem]
      intro i j hi hj hij
      have := key (j - i - 1) i (by omega)
      rw [show i + (j - i - 1 + 1) = j by omega] at this
      simpa [List.getD, List.getElem?_eq_getElem hi, List.getElem?_eq_getElem hj] using this
end Dc
namespace Dx
open Va (Vl May ord)
open Vc (mayB mayB_iff refMay_any refOrder_any)
open Sc (tr tr_yes tr_no tr_iff)
open Dc
set_option maxHeartbeats 4000000 in
theorem refFind_any (R : Option Addr) (m d : Nat) (vs : List Vl) (k i : Int) (s : ByteArray) (b : Bool) (w : World) (hV : Wd.Vs w R m d vs) :
    Calls Tryz.prog 71 #[.slice R m d, .agg #[.int .i64 k, .int .i64 i, .string s, .bool b]] w fun e w' => e = .returned (.int .i64 (fnd vs ⟨k, i, s, b⟩)) ∧ Below w.heap.size w w' := by
  have hb0 := (Below.refl w.heap.size w).alloc (Nat.le_refl _) (.cells #[.int .i64 k, .int .i64 i, .string s, .bool b] 47)
  have x0 : Vc.Vb (w.alloc (.cells #[.int .i64 k, .int .i64 i, .string s, .bool b] 47)) w.heap.size k i s b := Wd.Bx.new w _ _
  have Hm := Lib.hid hV.len
  have HV := Lib.hid (hV.below hb0)
  have hcap := hV.cap
  have hmx := hV.max
  unfold maxLen at hmx
  obtain ⟨F, hF⟩ : ∃ F, F = fnd vs ⟨k, i, s, b⟩ := ⟨_, rfl⟩
  rw [← hF]
  have HF := Lib.hid hF
  clear hV hF
  have hgt : Tryz.prog.eqGuardType Tryz.prog.depth 47 = false := by kernel_rfl
  have Hx0 := Lib.hid x0
  clear x0
  go_enter Tryz.func71, Tryz.ntmps71
  go_wp2
  generalize w.alloc (.cells #[.int .i64 k, .int .i64 i, .string s, .bool b] 47) = wa at *
  have hl0 := Wd.Bx.lt Hx0.out
  go_loopw [5] (fun j wr => ∃ n : Nat, j = .int .i64 n ∧ n ≤ m ∧ Hid (fndF (vs.drop n) ⟨k, i, s, b⟩ (n : Int) = F) ∧ Below wa.heap.size wa wr) (fun j _ => m - (intOf j).toNat)
  case atStart => exact ⟨0, rfl, Nat.zero_le _, Lib.hid (by rw [HF.out]; rfl), Below.refl _ _⟩
  case round =>
    obtain ⟨n, rfl, hn, hf, hB⟩ := hrel
    obtain ⟨⟨y0, y1, y2, y3⟩, -⟩ := Vc.four (Hx0.out.below hl0 hB)
    by_cases hlt : n < m
    · obtain ⟨e, f, hR, heB, d0, d1, d2, d3, _⟩ := (HV.out.below hB).cells (j := n) (by rw [← Hm.out]; exact hlt) rfl
      subst hR
      have hst := fnd_step (vs := vs) (v := ⟨k, i, s, b⟩) (k := n) (by rw [← Hm.out]; exact hlt)
      rw [hf.out] at hst
      obtain ⟨v, hv⟩ : ∃ v, v = vs.getD n default := ⟨_, rfl⟩
      rw [← hv] at d0 d1 d2 d3 hst
      clear hv hf
      have heq := fun w => Vc.eqV v.kind v.i v.s v.b k i s b w
      by_cases hz : v = ⟨k, i, s, b⟩
      · rw [if_pos hz] at hst
        subst hz
        have HF2 := Lib.hid hst
        rw [decide_eq_true (by simp)] at heq
        clear hst
        go_wp2_with fail
        go_quiet (fail)
        go_wp2_with fail
        go_ret
        exact ⟨by rw [HF2.out]; rfl, hb0.trans ((Wd.below_drewN hB _).mono hb0.size)⟩
      · rw [if_neg hz] at hst
        have HF2 := Lib.hid hst.symm
        rw [decide_eq_false (fun h => hz (by obtain ⟨k1, i1, s1, b1⟩ := v; simp only [] at h; obtain ⟨rfl, rfl, rfl, rfl⟩ := h; rfl))] at heq
        clear hst hz
        go_wp2_with fail
        go_quiet (fail)
        go_wp2_with fail
        go_roundw
        case rel => exact ⟨n + 1, by go_num, by omega, HF2, Wd.below_drewN hB _⟩
        case measure => simp [intOf]; omega
    · have hkI : ¬ (n : Int) < m := by omega
      have e : F = -1 := by
        have := hf.out
        rw [List.drop_of_length_le (by rw [← Hm.out]; omega)] at this
        exact this.symm
      have He := Lib.hid e
      clear e hf
      go_wp2_with fail
      go_ret
      exact ⟨by rw [He.out]; rfl, hb0.trans (hB.mono hb0.size)⟩
set_option maxHeartbeats 4000000 in
theorem Place_any (R : Option Addr) (m d : Nat) (vs : List Vl) (k i : Int) (s : ByteArray) (b : Bool) (w : World) (hV : Wd.Vs w R m d vs) (hs : ∀ x ∈ vs, x.s.size ≤ maxLen) :
    Calls Tryz.prog 114 #[.slice R m d, .agg #[.int .i64 k, .int .i64 i, .string s, .bool b]] w fun e w' => e = .returned (.int .i64 (place vs ⟨k, i, s, b⟩ : Nat)) ∧ Below w.heap.size w w' := by
  have hb0 := (Below.refl w.heap.size w).alloc (Nat.le_refl _) (.cells #[.int .i64 k, .int .i64 i, .string s, .bool b] 47)
  have x0 : Vc.Vb (w.alloc (.cells #[.int .i64 k, .int .i64 i, .string s, .bool b] 47)) w.heap.size k i s b := Wd.Bx.new w _ _
  have Hm := Lib.hid hV.len
  have HV := Lib.hid (hV.below hb0)
  have Hs := Lib.hid hs
  have hcap := hV.cap
  have hmx := hV.max
  unfold maxLen at hmx
  obtain ⟨F, hF⟩ : ∃ F, F = place vs ⟨k, i, s, b⟩ := ⟨_, rfl⟩
  rw [← hF]
  have HF := Lib.hid hF
  clear hV hF hs
  have Hx0 := Lib.hid x0
  clear x0
  go_enter Tryz.func114, Tryz.ntmps114
  go_wp2
  generalize w.alloc (.cells #[.int .i64 k, .int .i64 i, .string s, .bool b] 47) = wa at *
  have hl0 := Wd.Bx.lt Hx0.out
  go_loopw [5, 6] (fun g j wr => ∃ n c : Nat, j = .int .i64 n ∧ g = .int .i64 c ∧ n ≤ m ∧ c ≤ n ∧ Hid (c = place (vs.take n) ⟨k, i, s, b⟩) ∧ Below wa.heap.size wa wr) (fun _ j _ => m - (intOf j).toNat)
  case atStart => exact ⟨0, 0, rfl, rfl, Nat.zero_le _, Nat.le_refl _, Lib.hid (by simp [place]), Below.refl _ _⟩
  case round =>
    obtain ⟨n, c, rfl, rfl, hn, hcn, hf, hB⟩ := hrel
    obtain ⟨⟨y0, y1, y2, y3⟩, -⟩ := Vc.four (Hx0.out.below hl0 hB)
    by_cases hlt : n < m
    · have hnl : n < vs.length := by rw [← Hm.out]; exact hlt
      obtain ⟨e, f, hR, heB, d0, d1, d2, d3, _⟩ := (HV.out.below hB).cells (j := n) hnl rfl
      subst hR
      have hst := place_take (v := ⟨k, i, s, b⟩) hnl
      have hsz := Hs.out _ (getD_mem hnl)
      rw [← hf.out] at hst
      obtain ⟨v, hv⟩ : ∃ v, v = vs.getD n default := ⟨_, rfl⟩
      rw [← hv] at d0 d1 d2 d3 hst hsz
      clear hv hf hnl
      have hBd := hB.drew
      have Co := Lib.hid (refOrder_any v.kind v.i v.s v.b k i s b wr.drew hsz)
      clear hsz
      obtain ⟨o, ho⟩ : ∃ o, o = ord v ⟨k, i, s, b⟩ := ⟨_, rfl⟩
      rw [show ord ⟨v.kind, v.i, v.s, v.b⟩ ⟨k, i, s, b⟩ = o from ho.symm] at Co
      rw [← ho] at hst
      have Hst := Lib.hid hst
      clear ho hst
      by_cases hz : o < 0
      · have H2 := Lib.hid (Hst.out.trans (by rw [if_pos hz]))
        clear Hst
        go_wp2_with fail
        go_region_with (go_at_call 102; (with_reducible refine Co.out.mono ?_); rintro q w3 ⟨rfl, hB3⟩; have hb3 : Below wa.heap.size wa w3 := hBd.trans (hB3.mono hBd.size))
        all_goals (
          go_wp2_with fail
          go_roundw
          case rel => exact ⟨n + 1, c + 1, by go_num, by go_num, by omega, by omega, Lib.hid H2.out.symm, hb3⟩
          case measure => simp [intOf]; omega)
      · have H2 := Lib.hid (Hst.out.trans (by rw [if_neg hz]))
        clear Hst
        go_wp2_with fail
        go_region_with (go_at_call 102; (with_reducible refine Co.out.mono ?_); rintro q w3 ⟨rfl, hB3⟩; have hb3 : Below wa.heap.size wa w3 := hBd.trans (hB3.mono hBd.size))
        all_goals (
          go_wp2_with fail
          go_roundw
          case rel => exact ⟨n + 1, c, by go_num, rfl, by omega, by omega, Lib.hid H2.out.symm, hb3⟩
          case measure => simp [intOf]; omega)
    · have hkI : ¬ (n : Int) < m := by omega
      have e : c = F := by
        have := hf.out
        rw [List.take_of_length_le (by rw [← Hm.out]; omega)] at this
        rw [this, HF.out]
      have He := Lib.hid e
      clear e hf
      go_wp2_with fail
      go_ret
      exact ⟨by rw [He.out]; rfl, hb0.trans (hB.mono hb0.size)⟩
end Dx
namespace Dx
open Va (Vl May ord null)
open Sc (tr tr_yes tr_no tr_iff)
open Dc
theorem info_i : (Tryz.prog.info? 3).map (fun i => (i.zero, i.size, i.bytes)) = some (some (.int .i64 0), 1, 8) := by kernel_rfl
def OutS (w : World) (l : List Vl) (ts : List Int) (e : Ending) (w' : World) : Prop := ∃ A n c B m d, e = .returned (.tuple #[.slice A n c, .slice B m d]) ∧ Wd.Vs w' A n c l ∧ Wd.Sl w' .i64 B m d ts ∧ Below w.heap.size w w'
def Fil (l out : List Vl) (k : Nat) : Prop := out.length = l.length ∧ (∀ x ∈ l.take k, out[place l x]? = some x) ∧ ∀ j, j < out.length → Wd.V1 (out.getD j default)
theorem fil_zero {l : List Vl} : Fil l (List.replicate l.length null) 0 := ⟨by simp, fun x hx => by simp at hx, fun j hj => by
  have : (List.replicate l.length null).getD j default = null := by
    have h : j < l.length := by simpa using hj
    simp [List.getD, h]
  rw [this]
  exact Sx.v1_of Sc.ok_null⟩
theorem fil_step {l out : List Vl} {k : Nat} (hm : ∀ x ∈ l, May x) (hn : l.Nodup) (h : Fil l out k) (hk : k < l.length) (h1 : Wd.V1 (l.getD k default)) : Fil l (out.set (place l (l.getD k default)) (l.getD k default)) (k + 1) := by
  have hx : l.getD k default ∈ l := getD_mem hk
  have hp := place_lt hm hn hx
  refine ⟨by simp [h.1], fun y hy => ?_, fun j hj => ?_⟩
  · rw [List.take_add_one, getD_at hk] at hy
    by_cases e : y = l.getD k default
    · rw [e, List.getElem?_set, if_pos rfl, if_pos (by rw [h.1]; exact hp)]
    · have hy' : y ∈ l.take k := by
        rcases List.mem_append.1 hy with q | q
        · exact q
        · exact absurd (by simpa using q) e
      have hyl : y ∈ l := List.mem_of_mem_take hy'
      have hne : place l (l.getD k default) ≠ place l y := fun q => e (by
        have a := srt_place hm hn hx
        have b := srt_place hm hn hyl
        rw [q] at a
        exact Option.some.inj (b.symm.trans a))
      rw [List.getElem?_set, if_neg hne]
      exact h.2.1 y hy'
  · rw [List.length_set] at hj
    by_cases e : j = place l (l.getD k default)
    · subst e
      rw [List.getD_eq_getElem?_getD, List.getElem?_set]
      simp only [if_true, hj]
      exact h1
    · rw [List.getD_eq_getElem?_getD, List.getElem?_set, if_neg (fun q => e q.symm), ← List.getD_eq_getElem?_getD]
      exact h.2.2 j hj
theorem fil_all {l out : List Vl} (hm : ∀ x ∈ l, May x) (hn : l.Nodup) (h : Fil l out l.length) : out = srt l :=
  srt_is hm hn h.1 fun x hx => h.2.1 x (by rw [List.take_length]; exact hx)
theorem tos_getD {l : List Vl} {k : Nat} (hk : k < l.length) : (tos l).getD k 0 = (place l (l.getD k default) : Int) := by
  rw [List.getD_eq_getElem?_getD, tos_at (getD_at hk)]
  rfl
set_option maxHeartbeats 8000000 in
theorem refSorted_any (R : Option Addr) (m d : Nat) (l : List Vl) (w : World) (hV : Wd.Vs w R m d l) (hs : ∀ x ∈ l, x.s.size ≤ maxLen) (hmay : ∀ x ∈ l, May x) (hnd : l.Nodup) (hm : m ≤ 4096) :
    Calls Tryz.prog 72 #[.slice R m d] w (OutS w (srt l) (tos l)) := by
  obtain ⟨i0, hi, hz0, hz1, hz2⟩ := info_parts info_i
  obtain ⟨j0, hj, gz0, gz1, gz2⟩ := info_parts Wd.info_vl
  have Hm := Lib.hid hV.len
  have HV := Lib.hid hV
  have Hs := Lib.hid hs
  have Hmay := Lib.hid hmay
  have Hnd := Lib.hid hnd
  have hcap := hV.cap
  have hmx := hV.max
  unfold maxLen at hmx
  clear hV hs hmay hnd
  go_enter Tryz.func72, Tryz.ntmps72
  go_wp2_with (first
    | (at_make; refine wpList_make_full _ rfl (.tmp 8) (.tmp 8) 48 rfl w.heap.size 47 j0 _ 4 Tryz.underlying48 hj gz0 gz1 .i64 .i64 m m m rfl rfl rfl rfl (by rw [gz2]; omega) (by unfold maxLen; omega) (Nat.le_refl _) ?_; intro w1 hown1 hgrow1)
    | (at_make; refine wpList_make_full _ rfl (.tmp 11) (.tmp 11) 25 rfl w1.heap.size 3 i0 _ 1 Tryz.underlying25 hi hz0 hz1 .i64 .i64 m m m rfl rfl rfl rfl (by rw [hz2]; omega) (by unfold maxLen; omega) (Nat.le_refl _) ?_; intro w2 hown2 hgrow2))
  have hb1 : Below w.heap.size w w1 := (Below.refl _ _).grown hgrow1 (Nat.le_refl _) (by simp)
  have hb12 : Below w1.heap.size w1 w2 := (Below.refl _ _).grown hgrow2 (Nat.le_refl _) (by simp)
  rw [Wd.made_null] at hown1
  rw [Wd.made_zero] at hown2
  have hV1 := (Wd.RowV.of_own hown1).1
  have hg12 : w.heap.size < w1.heap.size := hV1.lt
  have hV2 := hV1.below hg12 hb12
  have hR2 := (Wd.Row.of_own hown2).1
  have hb2 : Below w.heap.size w w2 := hb1.trans (hb12.mono hb1.size)
  have hne12 : w.heap.size ≠ w1.heap.size := by omega
  have I0 := Lib.hid (And.intro hV2 (And.intro hR2 hb2))
  clear hown1 hown2 hgrow1 hgrow2 hV1 hV2 hR2 hb1 hb12 hb2
  go_loopw [6] (fun i wr => ∃ (k : Nat) (out : List Vl), i = .int .i64 k ∧ k ≤ m ∧ Hid (Fil l out k) ∧ Wd.RowV wr w.heap.size out ∧ Wd.Row wr w1.heap.size .i64 3 (Wd.fill (tos l) k) ∧ Below w.heap.size w wr) (fun i _ => m - (intOf i).toNat)
  case atStart =>
    refine ⟨0, List.replicate m null, rfl, Nat.zero_le _, Lib.hid (by rw [Hm.out]; exact fil_zero), I0.out.1, ?_, I0.out.2.2⟩
    rw [Wd.fill_zero, tos_len, ← Hm.out]
    exact I0.out.2.1
  case round =>
    obtain ⟨k, out, rfl, hk, hf, hRV, hR, hB⟩ := hrel
    by_cases hlt : k < m
    · have hkl : k < l.length := by rw [← Hm.out]; exact hlt
      obtain ⟨e, f, hA, heB, d0, d1, d2, d3, hv1⟩ := HV.out.cells (j := k) hkl rfl
      subst hA
      have Z := Lib.hid fun w' (hb : Below w.heap.size w w') => (⟨(hb.cell (p := ⟨e, f + k * 4, none⟩) heB).trans d0, (hb.cell (p := ⟨e, f + k * 4 + 1, none⟩) heB).trans d1, (hb.cell (p := ⟨e, f + k * 4 + 2, none⟩) heB).trans d2, (hb.cell (p := ⟨e, f + k * 4 + 3, none⟩) heB).trans d3⟩ : _ ∧ _ ∧ _ ∧ _)
      have hstep := fil_step Hmay.out Hnd.out hf.out hkl hv1
      have htos := tos_getD hkl
      have hpl := place_lt Hmay.out Hnd.out (getD_mem hkl)
      obtain ⟨v, hv⟩ : ∃ v, v = l.getD k default := ⟨_, rfl⟩
      rw [← hv] at Z hstep htos hpl
      have Cp := Place_any (some ⟨e, f, none⟩) m d l v.kind v.i v.s v.b wr (HV.out.below hB) Hs.out
      rw [show (⟨v.kind, v.i, v.s, v.b⟩ : Vl) = v from rfl] at Cp
      generalize place l v = p at *
      have hpm : p < m := by rw [Hm.out]; exact hpl
      have hpI : (p : Int) < (m : Int) := by omega
      have hol : out.length = m := by rw [hf.out.1, Hm.out]
      have hkt : k < (tos l).length := by rw [tos_len]; exact hkl
      have hst : Wd.Row (wr.setCell ⟨w1.heap.size, k, none⟩ (.int .i64 (p : Int))) w1.heap.size .i64 3 (Wd.fill (tos l) (k + 1)) := by
        rw [← Wd.fill_set (tos l) k hkt, htos]
        exact hR.set k _
      have Hstep := Lib.hid hstep
      have Htos := Lib.hid htos
      have Hkt := Lib.hid hkt
      have Cp' := Lib.hid Cp
      obtain ⟨z0, z1, z2, z3⟩ := Z.out wr hB
      clear d0 d1 d2 d3 hv hv1 hstep htos hpl Cp hf hst hkt
      go_wp2_with fail
      refine Cp'.out.mono ?_
      rintro q w4 ⟨rfl, hB4⟩
      have hRV4 := hRV.below hRV.lt hB4
      have hR4 := hR.below hR.lt hB4
      have hb4 := hB.trans (hB4.mono hB.size)
      have cg := hR4.cell k (by rw [Wd.fill_len]; exact Hkt.out)
      have cf := hR4.free k
      have hb5 : Below w.heap.size w (w4.setCell ⟨w1.heap.size, k, none⟩ (.int .i64 (p : Int))) := hb4.setCell (Nat.le_of_lt hg12) _
      have hR5 : Wd.Row (w4.setCell ⟨w1.heap.size, k, none⟩ (.int .i64 (p : Int))) w1.heap.size .i64 3 (Wd.fill (tos l) (k + 1)) := by
        rw [← Wd.fill_set (tos l) k Hkt.out, Htos.out]
        exact hR4.set k _
      have hRV5 : Wd.RowV (w4.setCell ⟨w1.heap.size, k, none⟩ (.int .i64 (p : Int))) w.heap.size out := hRV4.other hne12
      have c5 : (w4.setCell ⟨w1.heap.size, k, none⟩ (.int .i64 (p : Int))).cell? ⟨w1.heap.size, k, none⟩ = some (.int .i64 (p : Int)) := by
        rw [hR5.cell k (by rw [Wd.fill_len]; exact Hkt.out), ← Wd.fill_set (tos l) k Hkt.out, Htos.out]
        simp [List.getD, Wd.fill_len, Hkt.out]
      clear z0 z1 z2 z3 hRV hR hB4 hRV4 hR4 hb4 Cp'
      go_wp2_with fail
      generalize w4.setCell ⟨w1.heap.size, k, none⟩ (.int .i64 (p : Int)) = w5 at *
      obtain ⟨z0, z1, z2, z3⟩ := Z.out w5 hb5
      obtain ⟨x, ⟨u0, u1, u2, u3⟩, ⟨f0, f1, f2, f3⟩⟩ := hRV5.four (p := p) (by rw [hol]; exact hpm)
      clear cg cf
      go_region
      all_goals (
        go_wp2_with fail
        go_roundw
        case rel =>
          refine ⟨k + 1, out.set p v, by go_num, by omega, Hstep, (hRV5.set p (by rw [hol]; exact hpm) v).drew, ?_, ?_⟩
          · exact ((((hR5.other (a := ⟨w.heap.size, p * 4, none⟩) (Ne.symm hne12)).other (a := ⟨w.heap.size, p * 4 + 1, none⟩) (Ne.symm hne12)).other (a := ⟨w.heap.size, p * 4 + 2, none⟩) (Ne.symm hne12)).other (a := ⟨w.heap.size, p * 4 + 3, none⟩) (Ne.symm hne12)).drew
          · exact ((((hb5.setCell (Nat.le_refl _) _).setCell (Nat.le_refl _) _).setCell (Nat.le_refl _) _).setCell (Nat.le_refl _) _).drew
        case measure => simp [intOf]; omega)
    · have hkI : ¬ (k : Int) < m := by omega
      have hkm : k = m := by omega
      have e : out = srt l := fil_all Hmay.out Hnd.out (by have := hf.out; rw [hkm, Hm.out] at this; exact this)
      have e2 : Wd.fill (tos l) k = tos l := by rw [hkm, Hm.out, ← tos_len l, Wd.fill_all]
      have hv := hf.out.2.2
      have hol := hf.out.1
      rw [e2] at hR
      have HE := Lib.hid e
      clear e e2 hf hkm
      go_wp2_with fail
      go_ret2
      refine ⟨_, _, _, _, _, _, rfl, ?_, hR.sl m (by rw [tos_len]; exact Hm.out) (by unfold maxLen; omega), hB⟩
      rw [← HE.out]
      exact hRV.vs m (by rw [hol]; exact Hm.out) (by unfold maxLen; omega) hv
end Dx
namespace Nc
set_option maxHeartbeats 400000 in
theorem ints_any (A B : Option Addr) (n m c d : Nat) (xs ys : List Int) (w : World) (ha : Wd.Sl w .i64 A n c xs) (hb : Wd.Sl w .i64 B m d ys) :
    Calls Tryz.prog 30 #[.slice A n c, .slice B m d] w fun e w' => e = .returned (.bool (decide (xs = ys))) ∧ ∃ q, w' = w.drewN q := by
  obtain ⟨rfl, hc, hx, hA, hr⟩ := ha
  obtain ⟨rfl, hd, hy, hB, hs⟩ := hb
  unfold maxLen at hx hy
  by_cases hl : xs.length = ys.length
  · have hne : ((xs.length : Int) != (ys.length : Int)) = false := by rw [hl]; simp
    have Hl := Lib.hid hl
    clear hl
    rcases Nat.eq_zero_or_pos xs.length with h0 | h0
    · have hx0 : xs = [] := List.eq_nil_of_length_eq_zero h0
      have hy0 : ys = [] := List.eq_nil_of_length_eq_zero (by rw [← Hl.out]; exact h0)
      subst hx0
      subst hy0
      go_enter Tryz.func30, Tryz.ntmps30
      go_wp2_with fail
      refine wp_loop_rounds 1 ?_
      rw [rounds_succ]
      go_wp2_with fail
      go_ret
      exact ⟨rfl, 0, rfl⟩
    · obtain ⟨a1, o1, rfl, _, hcx⟩ := hr.some_ h0
      obtain ⟨a2, o2, rfl, _, hcy⟩ := hs.some_ (by rw [← Hl.out]; exact h0)
      clear hr hs hA hB
      have hle1 : xs.length ≤ ys.length := by rw [Hl.out]; exact Nat.le_refl _
      have hle2 : ys.length ≤ xs.length := by rw [Hl.out]; exact Nat.le_refl _
      go_enter Tryz.func30, Tryz.ntmps30
      go_wp2_with fail
      go_loopw [5] (fun i wr => ∃ (k q : Nat), i = .int .i64 k ∧ k ≤ xs.length ∧ wr = w.drewN q ∧ xs.take k = ys.take k) (fun i _ => xs.length - (intOf i).toNat)
      case atStart => exact ⟨0, 0, rfl, Nat.zero_le _, rfl, rfl⟩
      case round =>
        obtain ⟨k, q, rfl, hk, rfl, ht⟩ := hrel
        have Ht := Lib.hid ht
        clear ht
        by_cases hlt : k < xs.length
        · have hlt2 : k < ys.length := by omega
          have c1 := hcx k hlt
          have c2 := hcy k hlt2
          obtain ⟨x, hx'⟩ : ∃ x, x = xs.getD k 0 := ⟨_, rfl⟩
          obtain ⟨y, hy'⟩ : ∃ y, y = ys.getD k 0 := ⟨_, rfl⟩
          rw [← hx'] at c1
          rw [← hy'] at c2
          have Hx := Lib.hid hx'
          have Hy := Lib.hid hy'
          clear hx' hy' hcx hcy
          have i1 : (k : Int) < (xs.length : Int) := by omega
          have i2 : (k : Int) < (ys.length : Int) := by omega
          by_cases hxy : x = y
          · have hbq : (x != y) = false := by rw [hxy]; simp
            have Hxy := Lib.hid hxy
            clear hxy
            go_wp2_with fail
            go_quiet (fail)
            go_wp2_with fail
            go_roundw
            case rel =>
              refine ⟨k + 1, _, by go_num, by omega, rfl, ?_⟩
              rw [List.take_succ_eq_append_getElem hlt, List.take_succ_eq_append_getElem hlt2, Ht.out]
              have e1 := Hx.out
              have e2 := Hy.out
              simp only [List.getD, List.getElem?_eq_getElem hlt, List.getElem?_eq_getElem hlt2, Option.getD_some] at e1 e2
              rw [← e1, ← e2, Hxy.out]
            case measure => simp [intOf]; omega
          · have hbq : (x != y) = true := by rw [bne_iff_ne]; exact hxy
            have Hxy := Lib.hid hxy
            clear hxy
            go_wp2_with fail
            go_quiet (fail)
            go_wp2_with fail
            go_ret
            refine ⟨?_, _, World.drewN_drewN _ _ _⟩
            rw [decide_eq_false (fun e => Hxy.out (by rw [Hx.out, Hy.out, e]))]
            rfl
        · go_wp2_with fail
          go_ret
          refine ⟨?_, _, rfl⟩
          have := Ht.out
          rw [List.take_of_length_le (by omega), List.take_of_length_le (by omega)] at this
          rw [decide_eq_true this]
          rfl
  · have hne : ((xs.length : Int) != (ys.length : Int)) = true := by rw [bne_iff_ne]; omega
    go_enter Tryz.func30, Tryz.ntmps30
    go_wp2_with fail
    go_ret
    refine ⟨?_, 0, rfl⟩
    rw [decide_eq_false (fun e => hl (by rw [e]))]
    rfl
end Nc
namespace Vc
open Va
theorem nanI_any (x : Int) (w : World) :
    Calls Tryz.prog 142 #[.int .i64 x] w fun e w' => e = .returned (.bool false) ∧ w' = w := by
  go_enter Tryz.func142, Tryz.ntmps142
  go_wp2_with fail
  go_ret
  exact ⟨by simp, rfl⟩
theorem nanB_any (x : Int) (w : World) :
    Calls Tryz.prog 233 #[.int .u8 x] w fun e w' => e = .returned (.bool false) ∧ w' = w := by
  go_enter Tryz.func233, Tryz.ntmps233
  go_wp2_with fail
  go_ret
  exact ⟨by simp, rfl⟩
theorem nanS_any (x : ByteArray) (w : World) :
    Calls Tryz.prog 232 #[.string x] w fun e w' => e = .returned (.bool false) ∧ w' = w := by
  go_enter Tryz.func232, Tryz.ntmps232
  go_wp2_with fail
  go_ret
  exact ⟨by simp, rfl⟩
theorem cmpI_any (x y : Int) (w : World) :
    Calls Tryz.prog 92 #[.int .i64 x, .int .i64 y] w fun e w' => e = .returned (.int .i64 (cmpI x y)) ∧ w' = w := by
  have n1 := nanI_any x w
  have n2 := nanI_any y w
  by_cases h1 : x < y
  · have e : cmpI x y = -1 := by unfold cmpI; simp [h1, way]
    rw [e]
    go_enter Tryz.func92, Tryz.ntmps92
    go_wp2_with fail
    refine n1.mono ?_
    rintro _ _ ⟨rfl, rfl⟩
    go_wp2_with fail
    refine n2.mono ?_
    rintro _ _ ⟨rfl, rfl⟩
    go_wp2_with fail
    go_ret
    exact ⟨rfl, rfl⟩
  by_cases h2 : y < x
  · have e : cmpI x y = 1 := by unfold cmpI; simp [h1, h2, way]
    rw [e]
    go_enter Tryz.func92, Tryz.ntmps92
    go_wp2_with fail
    refine n1.mono ?_
    rintro _ _ ⟨rfl, rfl⟩
    go_wp2_with fail
    refine n2.mono ?_
    rintro _ _ ⟨rfl, rfl⟩
    go_wp2_with fail
    go_ret
    exact ⟨rfl, rfl⟩
  · have e : cmpI x y = 0 := by unfold cmpI; simp [h1, h2, way]
    rw [e]
    go_enter Tryz.func92, Tryz.ntmps92
    go_wp2_with fail
    refine n1.mono ?_
    rintro _ _ ⟨rfl, rfl⟩
    go_wp2_with fail
    refine n2.mono ?_
    rintro _ _ ⟨rfl, rfl⟩
    go_wp2_with fail
    go_ret
    exact ⟨rfl, rfl⟩
theorem cmpD_any (x y : Int) (w : World) :
    Calls Tryz.prog 192 #[.int .u8 x, .int .u8 y] w fun e w' => e = .returned (.int .i64 (cmpI x y)) ∧ w' = w := by
  have n1 := nanB_any x w
  have n2 := nanB_any y w
  by_cases h1 : x < y
  · have e : cmpI x y = -1 := by unfold cmpI; simp [h1, way]
    rw [e]
    go_enter Tryz.func192, Tryz.ntmps192
    go_wp2_with fail
    refine n1.mono ?_
    rintro _ _ ⟨rfl, rfl⟩
    go_wp2_with fail
    refine n2.mono ?_
    rintro _ _ ⟨rfl, rfl⟩
    go_wp2_with fail
    go_ret
    exact ⟨rfl, rfl⟩
  by_cases h2 : y < x
  · have e : cmpI x y = 1 := by unfold cmpI; simp [h1, h2, way]
    rw [e]
    go_enter Tryz.func192, Tryz.ntmps192
    go_wp2_with fail
    refine n1.mono ?_
    rintro _ _ ⟨rfl, rfl⟩
    go_wp2_with fail
    refine n2.mono ?_
    rintro _ _ ⟨rfl, rfl⟩
    go_wp2_with fail
    go_ret
    exact ⟨rfl, rfl⟩
  · have e : cmpI x y = 0 := by unfold cmpI; simp [h1, h2, way]
    rw [e]
    go_enter Tryz.func192, Tryz.ntmps192
    go_wp2_with fail
    refine n1.mono ?_
    rintro _ _ ⟨rfl, rfl⟩
    go_wp2_with fail
    refine n2.mono ?_
    rintro _ _ ⟨rfl, rfl⟩
    go_wp2_with fail
    go_ret
    exact ⟨rfl, rfl⟩
theorem cmpS_any (x y : ByteArray) (w : World) :
    Calls Tryz.prog 191 #[.string x, .string y] w fun e w' => e = .returned (.int .i64 (cmpS x y)) ∧ w' = w := by
  have n1 := nanS_any x w
  have n2 := nanS_any y w
  cases h1 : bef x y
  case true =>
    have e : cmpS x y = -1 := by unfold cmpS; simp [h1, way]
    have g1 : Op.bytesLess x.toList y.toList = true := h1
    rw [e]
    go_enter Tryz.func191, Tryz.ntmps191
    go_wp2_with fail
    refine n1.mono ?_
    rintro _ _ ⟨rfl, rfl⟩
    go_wp2_with fail
    refine n2.mono ?_
    rintro _ _ ⟨rfl, rfl⟩
    go_wp2_with fail
    go_ret
    exact ⟨rfl, rfl⟩
  cases h2 : bef y x
  case true =>
    have e : cmpS x y = 1 := by unfold cmpS; simp [h1, h2, way]
    have g1 : Op.bytesLess x.toList y.toList = false := h1
    have g2 : Op.bytesLess y.toList x.toList = true := h2
    have ne : ¬ x = y := fun q => by rw [q, bef_irrefl] at h2; cases h2
    have g3 : (x.toList == y.toList) = false := by
      rw [ByteArray.toList_eq, ByteArray.toList_eq]
      simpa using fun q => ne (WideShapes.bytes_inj q)
    clear h1 h2 ne
    rw [e]
    go_enter Tryz.func191, Tryz.ntmps191
    go_wp2_with fail
    refine n1.mono ?_
    rintro _ _ ⟨rfl, rfl⟩
    go_wp2_with fail
    refine n2.mono ?_
    rintro _ _ ⟨rfl, rfl⟩
    go_wp2_with fail
    go_ret
    exact ⟨rfl, rfl⟩
  case false =>
    have e : cmpS x y = 0 := by unfold cmpS; simp [h1, h2, way]
    have g0 : x = y := by
      by_cases q : x = y
      · exact q
      · rcases bef_total q with p | p
        · rw [p] at h1; cases h1
        · rw [p] at h2; cases h2
    subst g0
    have g1 : Op.bytesLess x.toList x.toList = false := h1
    have g3 : (x.toList == x.toList) = true := by simp
    clear h1 h2
    rw [e]
    go_enter Tryz.func191, Tryz.ntmps191
    go_wp2_with fail
    refine n1.mono ?_
    rintro _ _ ⟨rfl, rfl⟩
    go_wp2_with fail
    refine n2.mono ?_
    rintro _ _ ⟨rfl, rfl⟩
    go_wp2_with fail
    go_ret
    exact ⟨rfl, rfl⟩
def fstN : List Int → Int
  | [] => 0
  | x :: r => if x = 0 then fstN r else x
theorem fstN_drop (l : List Int) (k : Nat) (h : k < l.length) : fstN (l.drop k) = if l.getD k 0 = 0 then fstN (l.drop (k + 1)) else l.getD k 0 := by
  rw [List.drop_eq_getElem_cons h, fstN]
  simp [List.getD, List.getElem?_eq_getElem h]
theorem or_any (A : Option Addr) (n c : Nat) (l : List Int) (w : World) (hS : Wd.Sl w .i64 A n c l) (hm : n ≤ 1000000) :
    Calls Tryz.prog 90 #[.slice A n c] w fun e w' => e = .returned (.int .i64 (fstN l)) ∧ w' = w := by
  have Hl := Lib.hid hS.len
  have hcap := hS.cap
  obtain ⟨z, hz⟩ : ∃ z, z = fstN l := ⟨_, rfl⟩
  rw [← hz]
  have Hz := Lib.hid hz
  clear hz
  go_enter Tryz.func90, Tryz.ntmps90
  go_wp2
  go_loopw [5, 8] (fun _ i wr => ∃ k : Nat, i = .int .i64 k ∧ k ≤ n ∧ Hid (fstN (l.drop k) = z) ∧ wr = w) (fun _ i _ => n - (intOf i).toNat)
  case atStart => exact ⟨0, rfl, Nat.zero_le _, Lib.hid (by rw [Hz.out]; rfl), rfl⟩
  case round =>
    obtain ⟨k, rfl, hk, hf, rfl⟩ := hrel
    by_cases hlt : k < n
    · obtain ⟨b, o, rfl, hbB, hcell⟩ := hS.rd k (by rw [← Hl.out]; exact hlt)
      have hst := fstN_drop l k (by rw [← Hl.out]; exact hlt)
      rw [hf.out] at hst
      obtain ⟨x, hx⟩ : ∃ x, x = l.getD k 0 := ⟨_, rfl⟩
      rw [← hx] at hcell hst
      have Hx := Lib.hid hst
      clear hst hx hf
      by_cases h0 : x = 0
      · go_wp2_with fail
        go_roundw
        case rel => exact ⟨k + 1, by go_num, by omega, Lib.hid (by rw [Hx.out, if_pos h0]), by first | rfl | trivial⟩
        case measure => simp [intOf]; omega
      · go_wp2_with fail
        go_ret
        exact ⟨by rw [Hx.out, if_neg h0]; rfl, rfl⟩
    · have hkI : ¬ (k : Int) < n := by omega
      have e : z = 0 := by
        rw [← hf.out, List.drop_of_length_le (by rw [← Hl.out]; omega)]
        rfl
      have He := Lib.hid e
      clear e
      go_wp2_with fail
      go_ret
      exact ⟨by rw [He.out]; rfl, rfl⟩
end Vc
end Go.Proofs.YtaoeipehpakngaaGreatDoor
