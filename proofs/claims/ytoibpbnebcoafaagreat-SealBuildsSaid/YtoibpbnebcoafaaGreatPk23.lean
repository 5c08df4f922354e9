/- What the reference of layer 7's Light does. What the reference of layer 8 does: Search; and few of the statements of layer 8. What the reference of layer 8 does: Add. What the reference of layer 8 does: Sorted. What the comparisons of layer 1's reference do: Same (bytes), Ints (integers). What the statements of layer 8 ask of a dictionary in memory: contracts of its methods, as one word; the chapter's example. -/
import Derived.WalkKit
import Derived.WalkSpells
import Derived.Lib.Hide
import Derived.Deep.QuietTactic
import Derived.BigQuiet
import Derived.Test.YtoibpbnebcoafaaGreatPk21
import Derived.Test.YtoibpbnebcoafaaGreatPk22
import Derived.Test.YtoibpbnebcoafaaGreatPk09
import Derived.Test.YtoibpbnebcoafaaGreatPk10
import Derived.Test.YtoibpbnebcoafaaGreatProg
import Derived.Test.YtoibpbnebcoafaaGreatPk02
namespace Go.Proofs.YtoibpbnebcoafaaGreat
set_option maxRecDepth 20000
open Go.RowKit
namespace Sx
open Sc (tr tr_yes tr_no)
open Va (Vl May)
set_option maxHeartbeats 1000000 in
theorem Light_any (R : Option Addr) (m d : Nat) (vs : List Vl) (w : World) (hV : Wd.Vs w R m d vs) :
    Calls Tryz.prog 32 #[.slice R m d] w fun e w' => e = .returned (.bool (tr (LightS vs))) ∧ w' = w := by
  have Hm := Lib.hid hV.len
  have HV := Lib.hid hV
  have hcap := hV.cap
  obtain ⟨r, hr⟩ : ∃ r, r = tr (LightS vs) := ⟨_, rfl⟩
  rw [← hr]
  have Hr := Lib.hid hr
  clear hr hV
  by_cases h12 : 12 < m
  · have e : r = false := by rw [Hr.out]; exact tr_no fun h => by have := h.1; have := Hm.out; omega
    subst e
    have q1 : (12 : Int) < (m : Int) := by omega
    clear h12
    go_enter Tryz.func32, Tryz.ntmps32
    go_wp2_with fail
    go_ret
    exact ⟨rfl, rfl⟩
  have q1 : ¬ (12 : Int) < (m : Int) := by omega
  go_enter Tryz.func32, Tryz.ntmps32
  go_wp2
  go_loopw [3] (fun i wr => ∃ k : Nat, i = .int .i64 k ∧ k ≤ m ∧ Hid (∀ j, j < k → (vs.getD j default).s.size ≤ 300) ∧ wr = w) (fun i _ => m - (intOf i).toNat)
  case atStart => exact ⟨0, rfl, Nat.zero_le _, Lib.hid (fun j hj => by omega), rfl⟩
  case round =>
    obtain ⟨k, rfl, hk, hf, rfl⟩ := hrel
    by_cases hlt : k < m
    · obtain ⟨e, f, hR, heB, d0, d1, d2, d3, _⟩ := HV.out.cells (j := k) (by rw [← Hm.out]; exact hlt) rfl
      subst hR
      obtain ⟨x, hx⟩ : ∃ x, x = (vs.getD k default).s := ⟨_, rfl⟩
      rw [← hx] at d2
      have Hx := Lib.hid hx
      clear hx d0 d1 d3
      by_cases hz : 300 < x.size
      · have e : r = false := by rw [Hr.out]; exact tr_no fun h => by have := h.2 k (by rw [← Hm.out]; exact hlt); rw [← Hx.out] at this; omega
        have He := Lib.hid e
        have hzI : (300 : Int) < (x.size : Int) := by omega
        clear e
        go_wp2_with fail
        go_ret
        exact ⟨by rw [He.out]; rfl, rfl⟩
      · have hzI : ¬ (300 : Int) < (x.size : Int) := by omega
        go_wp2_with fail
        go_roundw
        case rel =>
          refine ⟨k + 1, by go_num, by omega, Lib.hid fun j hj => ?_, by first | rfl | trivial⟩
          by_cases hjk : j = k
          · rw [hjk, ← Hx.out]; omega
          · exact hf.out j (by omega)
        case measure => simp [intOf]; omega
    · have hkI : ¬ (k : Int) < m := by omega
      have e : r = true := by
        rw [Hr.out]
        exact tr_yes ⟨by have := Hm.out; omega, fun i hi => hf.out i (by have := Hm.out; omega)⟩
      have He := Lib.hid e
      clear e hf
      go_wp2_with fail
      go_ret
      exact ⟨by rw [He.out]; rfl, rfl⟩
end Sx
end Go.Proofs.YtoibpbnebcoafaaGreat
namespace Go.Proofs.YtoibpbnebcoafaaGreat
set_option maxRecDepth 20000
open Go.RowKit
namespace Dx
open Va (Vl May ord)
open Vc (mayB mayB_iff refMay_any refOrder_any)
open Sc (tr tr_yes tr_no tr_iff)
open Dc
/-- What Search answers. -/
noncomputable def schN (l : List Vl) (v : Vl) : Int := if tr (May v ∧ Ris l) = true then (place l v : Int) else 0
noncomputable def schB (l : List Vl) (v : Vl) : Bool := tr (May v ∧ Ris l ∧ v ∈ l)
/-- Are there at most 100 values, of texts of at most 300 bytes? -/
def FewV (vs : List Vl) : Prop := vs.length ≤ 100 ∧ ∀ i, i < vs.length → (vs.getD i default).s.size ≤ 300
theorem light1 (x : Vl) : Sx.LightS [x] ↔ x.s.size ≤ 300 := by
  constructor
  · intro h
    exact h.2 0 (by simp)
  · intro h
    exact ⟨by simp, fun i hi => by
      obtain rfl : i = 0 := by simpa using hi
      exact h⟩
/-- One value of a slice of values, as a slice. -/
theorem vs_one {w : World} {b o n c : Nat} {vs : List Vl} (h : Wd.Vs w (some ⟨b, o, none⟩) n c vs) {k : Nat} (hk : k < vs.length) : Wd.Vs w (some ⟨b, o + k * 4, none⟩) 1 (c - k) [vs.getD k default] := by
  have hl := h.len
  have hc := h.cap
  have hm := h.max
  refine ⟨rfl, by omega, by omega, by simp, fun j hj => ?_⟩
  obtain rfl : j = 0 := by simpa using hj
  obtain ⟨b', o', e, hlt, hcell, h1⟩ := h.at_ k hk
  obtain ⟨rfl, rfl⟩ : b = b' ∧ o = o' := by cases e; exact ⟨rfl, rfl⟩
  exact ⟨b, o + k * 4, rfl, hlt, fun i v hv => by have := hcell i v hv; rw [show o + k * 4 + (0 * 4 + i) = o + (k * 4 + i) by omega]; exact this, h1⟩
end Dx
end Go.Proofs.YtoibpbnebcoafaaGreat
namespace Go.Proofs.YtoibpbnebcoafaaGreat
set_option maxRecDepth 20000
open Go.RowKit
namespace Dx
open Va (Vl May ord)
open Vc (mayB mayB_iff refMay_any refOrder_any)
open Sc (tr tr_yes tr_no tr_iff)
open Dc
/-- An answer of a row of values (the argument's, or a new one), a number and an error's number. -/
def OutA (w : World) (R : Option Addr) (r : List Vl × Int × Int) (e : Ending) (w' : World) : Prop := ∃ A n c, e = .returned (.tuple #[.slice A n c, .int .i64 r.2.1, .int .i64 r.2.2]) ∧ Wd.Vs w' A n c r.1 ∧ Below w.heap.size w w' ∧ (A = R ∨ ∀ a, A = some a → w.heap.size ≤ a.block ∧ a.block < w'.heap.size)
theorem own_loc {w : World} {B : Nat} {e : TypeId} {size k n c : Nat} {A : Option Addr} {xs : List Value} (h : w.ownsRow B e size (.slice A n c) k xs) : ∀ a, A = some a → B ≤ a.block ∧ a.block < w.heap.size := by
  intro a ha
  rcases h.2 with ⟨h', _⟩ | ⟨g', cap', cur, h', hb, hh, _⟩
  · simp only [Value.slice.injEq] at h'
    rw [h'.1] at ha
    cases ha
  · simp only [Value.slice.injEq] at h'
    rw [h'.1] at ha
    cases ha
    exact ⟨hb, lt_of_block hh⟩
theorem lim_len {n : Nat} (k : Int) : lim k ≤ (n : Int) ↔ k ≤ (n : Int) ∨ (4096 : Int) ≤ (n : Int) := by
  unfold lim
  split
  · omega
  · split <;> omega
end Dx
end Go.Proofs.YtoibpbnebcoafaaGreat
namespace Go.Proofs.YtoibpbnebcoafaaGreat
set_option maxRecDepth 20000
open Go.RowKit
namespace Dx
open Va (Vl May ord null)
open Sc (tr tr_yes tr_no tr_iff)
open Dc
theorem info_i : (Tryz.prog.info? 3).map (fun i => (i.zero, i.size, i.bytes)) = some (some (.int .i64 0), 1, 8) := by kernel_rfl
/-- An answer of a row of values and a row of numbers. -/
def OutS (w : World) (l : List Vl) (ts : List Int) (e : Ending) (w' : World) : Prop := ∃ A n c B m d, e = .returned (.tuple #[.slice A n c, .slice B m d]) ∧ Wd.Vs w' A n c l ∧ Wd.Sl w' .i64 B m d ts ∧ Below w.heap.size w w'
/-- What is filled behind k rounds. -/
def Fil (l out : List Vl) (k : Nat) : Prop := out.length = l.length ∧ (∀ x ∈ l.take k, out[place l x]? = some x) ∧ ∀ j, j < out.length → Wd.V1 (out.getD j default)
theorem fil_zero {l : List Vl} : Fil l (List.replicate l.length null) 0 := ⟨by simp, fun x hx => by simp at hx, fun j hj => by
  have : (List.replicate l.length null).getD j default = null := by
    have h : j < l.length := by simpa using hj
    simp [List.getD, h]
  rw [this]
  exact Sx.v1_of Sc.ok_null⟩
theorem fil_step {l out : List Vl} {k : Nat} (hm : ∀ x ∈ l, May x) (hn : l.Nodup) (h : Fil l out k) (hk : k < l.length) (h1 : Wd.V1 (l.getD k default)) : Fil l (out.set (place l (l.getD k default)) (l.getD k default)) (k + 1) := by
  have hx : l.getD k default ∈ l := getD_mem hk
  have hp := place_lt hm hn hx
  refine ⟨by simp [h.1], fun y hy => ?_, fun j hj => ?_⟩
  · rw [List.take_add_one, getD_at hk] at hy
    by_cases e : y = l.getD k default
    · rw [e, List.getElem?_set, if_pos rfl, if_pos (by rw [h.1]; exact hp)]
    · have hy' : y ∈ l.take k := by
        rcases List.mem_append.1 hy with q | q
        · exact q
        · exact absurd (by simpa using q) e
      have hyl : y ∈ l := List.mem_of_mem_take hy'
      have hne : place l (l.getD k default) ≠ place l y := fun q => e (by
        have a := srt_place hm hn hx
        have b := srt_place hm hn hyl
        rw [q] at a
        exact Option.some.inj (b.symm.trans a))
      rw [List.getElem?_set, if_neg hne]
      exact h.2.1 y hy'
  · rw [List.length_set] at hj
    by_cases e : j = place l (l.getD k default)
    · subst e
      rw [List.getD_eq_getElem?_getD, List.getElem?_set]
      simp only [if_true, hj]
      exact h1
    · rw [List.getD_eq_getElem?_getD, List.getElem?_set, if_neg (fun q => e q.symm), ← List.getD_eq_getElem?_getD]
      exact h.2.2 j hj
theorem fil_all {l out : List Vl} (hm : ∀ x ∈ l, May x) (hn : l.Nodup) (h : Fil l out l.length) : out = srt l :=
  srt_is hm hn h.1 fun x hx => h.2.1 x (by rw [List.take_length]; exact hx)
theorem tos_getD {l : List Vl} {k : Nat} (hk : k < l.length) : (tos l).getD k 0 = (place l (l.getD k default) : Int) := by
  rw [List.getD_eq_getElem?_getD, tos_at (getD_at hk)]
  rfl
set_option maxHeartbeats 8000000 in
theorem refSorted_any (R : Option Addr) (m d : Nat) (l : List Vl) (w : World) (hV : Wd.Vs w R m d l) (hs : ∀ x ∈ l, x.s.size ≤ maxLen) (hmay : ∀ x ∈ l, May x) (hnd : l.Nodup) (hm : m ≤ 4096) :
    Calls Tryz.prog 65 #[.slice R m d] w (OutS w (srt l) (tos l)) := by
  obtain ⟨i0, hi, hz0, hz1, hz2⟩ := info_parts info_i
  obtain ⟨j0, hj, gz0, gz1, gz2⟩ := info_parts Wd.info_vl
  have Hm := Lib.hid hV.len
  have HV := Lib.hid hV
  have Hs := Lib.hid hs
  have Hmay := Lib.hid hmay
  have Hnd := Lib.hid hnd
  have hcap := hV.cap
  have hmx := hV.max
  unfold maxLen at hmx
  clear hV hs hmay hnd
  go_enter Tryz.func65, Tryz.ntmps65
  go_wp2_with (first
    | (at_make; refine wpList_make_full _ rfl (.tmp 8) (.tmp 8) 45 rfl w.heap.size 56 j0 _ 4 Tryz.underlying45 hj gz0 gz1 .i64 .i64 m m m rfl rfl rfl rfl (by rw [gz2]; omega) (by unfold maxLen; omega) (Nat.le_refl _) ?_; intro w1 hown1 hgrow1)
    | (at_make; refine wpList_make_full _ rfl (.tmp 11) (.tmp 11) 25 rfl w1.heap.size 3 i0 _ 1 Tryz.underlying25 hi hz0 hz1 .i64 .i64 m m m rfl rfl rfl rfl (by rw [hz2]; omega) (by unfold maxLen; omega) (Nat.le_refl _) ?_; intro w2 hown2 hgrow2))
  have hb1 : Below w.heap.size w w1 := (Below.refl _ _).grown hgrow1 (Nat.le_refl _) (by simp)
  have hb12 : Below w1.heap.size w1 w2 := (Below.refl _ _).grown hgrow2 (Nat.le_refl _) (by simp)
  rw [Wd.made_null] at hown1
  rw [Wd.made_zero] at hown2
  have hV1 := (Wd.RowV.of_own hown1).1
  have hg12 : w.heap.size < w1.heap.size := hV1.lt
  have hV2 := hV1.below hg12 hb12
  have hR2 := (Wd.Row.of_own hown2).1
  have hb2 : Below w.heap.size w w2 := hb1.trans (hb12.mono hb1.size)
  have hne12 : w.heap.size ≠ w1.heap.size := by omega
  have I0 := Lib.hid (And.intro hV2 (And.intro hR2 hb2))
  clear hown1 hown2 hgrow1 hgrow2 hV1 hV2 hR2 hb1 hb12 hb2
  go_loopw [6] (fun i wr => ∃ (k : Nat) (out : List Vl), i = .int .i64 k ∧ k ≤ m ∧ Hid (Fil l out k) ∧ Wd.RowV wr w.heap.size out ∧ Wd.Row wr w1.heap.size .i64 3 (Wd.fill (tos l) k) ∧ Below w.heap.size w wr) (fun i _ => m - (intOf i).toNat)
  case atStart =>
    refine ⟨0, List.replicate m null, rfl, Nat.zero_le _, Lib.hid (by rw [Hm.out]; exact fil_zero), I0.out.1, ?_, I0.out.2.2⟩
    rw [Wd.fill_zero, tos_len, ← Hm.out]
    exact I0.out.2.1
  case round =>
    obtain ⟨k, out, rfl, hk, hf, hRV, hR, hB⟩ := hrel
    by_cases hlt : k < m
    · have hkl : k < l.length := by rw [← Hm.out]; exact hlt
      obtain ⟨e, f, hA, heB, d0, d1, d2, d3, hv1⟩ := HV.out.cells (j := k) hkl rfl
      subst hA
      have Z := Lib.hid fun w' (hb : Below w.heap.size w w') => (⟨(hb.cell (p := ⟨e, f + k * 4, none⟩) heB).trans d0, (hb.cell (p := ⟨e, f + k * 4 + 1, none⟩) heB).trans d1, (hb.cell (p := ⟨e, f + k * 4 + 2, none⟩) heB).trans d2, (hb.cell (p := ⟨e, f + k * 4 + 3, none⟩) heB).trans d3⟩ : _ ∧ _ ∧ _ ∧ _)
      have hstep := fil_step Hmay.out Hnd.out hf.out hkl hv1
      have htos := tos_getD hkl
      have hpl := place_lt Hmay.out Hnd.out (getD_mem hkl)
      obtain ⟨v, hv⟩ : ∃ v, v = l.getD k default := ⟨_, rfl⟩
      rw [← hv] at Z hstep htos hpl
      have Cp := Place_any (some ⟨e, f, none⟩) m d l v.kind v.i v.s v.b wr (HV.out.below hB) Hs.out
      rw [show (⟨v.kind, v.i, v.s, v.b⟩ : Vl) = v from rfl] at Cp
      generalize place l v = p at *
      have hpm : p < m := by rw [Hm.out]; exact hpl
      have hpI : (p : Int) < (m : Int) := by omega
      have hol : out.length = m := by rw [hf.out.1, Hm.out]
      have hkt : k < (tos l).length := by rw [tos_len]; exact hkl
      have hst : Wd.Row (wr.setCell ⟨w1.heap.size, k, none⟩ (.int .i64 (p : Int))) w1.heap.size .i64 3 (Wd.fill (tos l) (k + 1)) := by
        rw [← Wd.fill_set (tos l) k hkt, htos]
        exact hR.set k _
      have Hstep := Lib.hid hstep
      have Htos := Lib.hid htos
      have Hkt := Lib.hid hkt
      have Cp' := Lib.hid Cp
      obtain ⟨z0, z1, z2, z3⟩ := Z.out wr hB
      clear d0 d1 d2 d3 hv hv1 hstep htos hpl Cp hf hst hkt
      go_wp2_with fail
      refine Cp'.out.mono ?_
      rintro q w4 ⟨rfl, hB4⟩
      have hRV4 := hRV.below hRV.lt hB4
      have hR4 := hR.below hR.lt hB4
      have hb4 := hB.trans (hB4.mono hB.size)
      have cg := hR4.cell k (by rw [Wd.fill_len]; exact Hkt.out)
      have cf := hR4.free k
      have hb5 : Below w.heap.size w (w4.setCell ⟨w1.heap.size, k, none⟩ (.int .i64 (p : Int))) := hb4.setCell (Nat.le_of_lt hg12) _
      have hR5 : Wd.Row (w4.setCell ⟨w1.heap.size, k, none⟩ (.int .i64 (p : Int))) w1.heap.size .i64 3 (Wd.fill (tos l) (k + 1)) := by
        rw [← Wd.fill_set (tos l) k Hkt.out, Htos.out]
        exact hR4.set k _
      have hRV5 : Wd.RowV (w4.setCell ⟨w1.heap.size, k, none⟩ (.int .i64 (p : Int))) w.heap.size out := hRV4.other hne12
      have c5 : (w4.setCell ⟨w1.heap.size, k, none⟩ (.int .i64 (p : Int))).cell? ⟨w1.heap.size, k, none⟩ = some (.int .i64 (p : Int)) := by
        rw [hR5.cell k (by rw [Wd.fill_len]; exact Hkt.out), ← Wd.fill_set (tos l) k Hkt.out, Htos.out]
        simp [List.getD, Wd.fill_len, Hkt.out]
      clear z0 z1 z2 z3 hRV hR hB4 hRV4 hR4 hb4 Cp'
      go_wp2_with fail
      generalize w4.setCell ⟨w1.heap.size, k, none⟩ (.int .i64 (p : Int)) = w5 at *
      obtain ⟨z0, z1, z2, z3⟩ := Z.out w5 hb5
      obtain ⟨x, ⟨u0, u1, u2, u3⟩, ⟨f0, f1, f2, f3⟩⟩ := hRV5.four (p := p) (by rw [hol]; exact hpm)
      clear cg cf
      go_region
      all_goals (
        go_wp2_with fail
        go_roundw
        case rel =>
          refine ⟨k + 1, out.set p v, by go_num, by omega, Hstep, (hRV5.set p (by rw [hol]; exact hpm) v).drew, ?_, ?_⟩
          · exact ((((hR5.other (a := ⟨w.heap.size, p * 4, none⟩) (Ne.symm hne12)).other (a := ⟨w.heap.size, p * 4 + 1, none⟩) (Ne.symm hne12)).other (a := ⟨w.heap.size, p * 4 + 2, none⟩) (Ne.symm hne12)).other (a := ⟨w.heap.size, p * 4 + 3, none⟩) (Ne.symm hne12)).drew
          · exact ((((hb5.setCell (Nat.le_refl _) _).setCell (Nat.le_refl _) _).setCell (Nat.le_refl _) _).setCell (Nat.le_refl _) _).drew
        case measure => simp [intOf]; omega)
    · have hkI : ¬ (k : Int) < m := by omega
      have hkm : k = m := by omega
      have e : out = srt l := fil_all Hmay.out Hnd.out (by have := hf.out; rw [hkm, Hm.out] at this; exact this)
      have e2 : Wd.fill (tos l) k = tos l := by rw [hkm, Hm.out, ← tos_len l, Wd.fill_all]
      have hv := hf.out.2.2
      have hol := hf.out.1
      rw [e2] at hR
      have HE := Lib.hid e
      clear e e2 hf hkm
      go_wp2_with fail
      go_ret2
      refine ⟨_, _, _, _, _, _, rfl, ?_, hR.sl m (by rw [tos_len]; exact Hm.out) (by unfold maxLen; omega), hB⟩
      rw [← HE.out]
      exact hRV.vs m (by rw [hol]; exact Hm.out) (by unfold maxLen; omega) hv
end Dx
end Go.Proofs.YtoibpbnebcoafaaGreat
namespace Go.Proofs.YtoibpbnebcoafaaGreat
set_option maxRecDepth 20000
open Go.RowKit
namespace Nc

set_option maxHeartbeats 400000 in
theorem ints_any (A B : Option Addr) (n m c d : Nat) (xs ys : List Int) (w : World) (ha : Wd.Sl w .i64 A n c xs) (hb : Wd.Sl w .i64 B m d ys) :
    Calls Tryz.prog 16 #[.slice A n c, .slice B m d] w fun e w' => e = .returned (.bool (decide (xs = ys))) ∧ ∃ q, w' = w.drewN q := by
  obtain ⟨rfl, hc, hx, hA, hr⟩ := ha
  obtain ⟨rfl, hd, hy, hB, hs⟩ := hb
  unfold maxLen at hx hy
  by_cases hl : xs.length = ys.length
  · have hne : ((xs.length : Int) != (ys.length : Int)) = false := by rw [hl]; simp
    have Hl := Lib.hid hl
    clear hl
    rcases Nat.eq_zero_or_pos xs.length with h0 | h0
    · have hx0 : xs = [] := List.eq_nil_of_length_eq_zero h0
      have hy0 : ys = [] := List.eq_nil_of_length_eq_zero (by rw [← Hl.out]; exact h0)
      subst hx0
      subst hy0
      go_enter Tryz.func16, Tryz.ntmps16
      go_wp2_with fail
      refine wp_loop_rounds 1 ?_
      rw [rounds_succ]
      go_wp2_with fail
      go_ret
      exact ⟨rfl, 0, rfl⟩
    · obtain ⟨a1, o1, rfl, _, hcx⟩ := hr.some_ h0
      obtain ⟨a2, o2, rfl, _, hcy⟩ := hs.some_ (by rw [← Hl.out]; exact h0)
      clear hr hs hA hB
      have hle1 : xs.length ≤ ys.length := by rw [Hl.out]; exact Nat.le_refl _
      have hle2 : ys.length ≤ xs.length := by rw [Hl.out]; exact Nat.le_refl _
      go_enter Tryz.func16, Tryz.ntmps16
      go_wp2_with fail
      go_loopw [5] (fun i wr => ∃ (k q : Nat), i = .int .i64 k ∧ k ≤ xs.length ∧ wr = w.drewN q ∧ xs.take k = ys.take k) (fun i _ => xs.length - (intOf i).toNat)
      case atStart => exact ⟨0, 0, rfl, Nat.zero_le _, rfl, rfl⟩
      case round =>
        obtain ⟨k, q, rfl, hk, rfl, ht⟩ := hrel
        have Ht := Lib.hid ht
        clear ht
        by_cases hlt : k < xs.length
        · have hlt2 : k < ys.length := by omega
          have c1 := hcx k hlt
          have c2 := hcy k hlt2
          obtain ⟨x, hx'⟩ : ∃ x, x = xs.getD k 0 := ⟨_, rfl⟩
          obtain ⟨y, hy'⟩ : ∃ y, y = ys.getD k 0 := ⟨_, rfl⟩
          rw [← hx'] at c1
          rw [← hy'] at c2
          have Hx := Lib.hid hx'
          have Hy := Lib.hid hy'
          clear hx' hy' hcx hcy
          have i1 : (k : Int) < (xs.length : Int) := by omega
          have i2 : (k : Int) < (ys.length : Int) := by omega
          by_cases hxy : x = y
          · have hbq : (x != y) = false := by rw [hxy]; simp
            have Hxy := Lib.hid hxy
            clear hxy
            go_wp2_with fail
            go_quiet (fail)
            go_wp2_with fail
            go_roundw
            case rel =>
              refine ⟨k + 1, _, by go_num, by omega, rfl, ?_⟩
              rw [List.take_succ_eq_append_getElem hlt, List.take_succ_eq_append_getElem hlt2, Ht.out]
              have e1 := Hx.out
              have e2 := Hy.out
              simp only [List.getD, List.getElem?_eq_getElem hlt, List.getElem?_eq_getElem hlt2, Option.getD_some] at e1 e2
              rw [← e1, ← e2, Hxy.out]
            case measure => simp [intOf]; omega
          · have hbq : (x != y) = true := by rw [bne_iff_ne]; exact hxy
            have Hxy := Lib.hid hxy
            clear hxy
            go_wp2_with fail
            go_quiet (fail)
            go_wp2_with fail
            go_ret
            refine ⟨?_, _, World.drewN_drewN _ _ _⟩
            rw [decide_eq_false (fun e => Hxy.out (by rw [Hx.out, Hy.out, e]))]
            rfl
        · go_wp2_with fail
          go_ret
          refine ⟨?_, _, rfl⟩
          have := Ht.out
          rw [List.take_of_length_le (by omega), List.take_of_length_le (by omega)] at this
          rw [decide_eq_true this]
          rfl
  · have hne : ((xs.length : Int) != (ys.length : Int)) = true := by rw [bne_iff_ne]; omega
    go_enter Tryz.func16, Tryz.ntmps16
    go_wp2_with fail
    go_ret
    refine ⟨?_, 0, rfl⟩
    rw [decide_eq_false (fun e => hl (by rw [e]))]
    rfl
theorem ints_yes (A B : Option Addr) (n m c d : Nat) (xs ys : List Int) (w : World) (ha : Wd.Sl w .i64 A n c xs) (hb : Wd.Sl w .i64 B m d ys) (h : xs = ys) :
    Calls Tryz.prog 16 #[.slice A n c, .slice B m d] w fun e w' => e = .returned (.bool true) ∧ Below w.heap.size w w' :=
  (ints_any A B n m c d xs ys w ha hb).mono fun _ _ ⟨he, q, hq⟩ => ⟨by rw [he, decide_eq_true h], by rw [hq]; exact Wd.below_drewN (Below.refl _ _) q⟩
end Nc
end Go.Proofs.YtoibpbnebcoafaaGreat
namespace Go.Proofs.YtoibpbnebcoafaaGreat
set_option maxRecDepth 20000
open Go.RowKit
namespace Dx
open Va (Vl May ord null)
open Sc (tr tr_yes tr_no tr_iff)
open Dc
/-- A value as the machine holds it. -/
def ag (v : Vl) : Value := .agg #[.int .i64 v.kind, .int .i64 v.i, .string v.s, .bool v.b]
/-- Values whose numbers are the machine's, and whose texts are no longer than any. -/
def Okv (v : Vl) : Prop := Wd.V1 v ∧ v.s.size ≤ maxLen
variable {D : World → Nat → List Vl → Int → (Nat → Prop) → Prop}
end Dx
end Go.Proofs.YtoibpbnebcoafaaGreat
