/- What the reference of layer 8 does: Sorted. -/
import Derived.Test.YtiokajaadmfohaaDcRef
import Derived.Test.YtiokajaadmfohaaDcVals
namespace Go.Proofs.Ytiokajaadmfohaa
set_option maxRecDepth 20000
open Go.RowKit
namespace Dx
open Va (Vl May ord null)
open Sc (tr tr_yes tr_no tr_iff)
open Dc
theorem info_i : (Try.prog.info? 3).map (fun i => (i.zero, i.size, i.bytes)) = some (some (.int .i64 0), 1, 8) := by kernel_rfl
/-- An answer of a row of values and a row of numbers. -/
def OutS (w : World) (l : List Vl) (to : List Int) (e : Ending) (w' : World) : Prop := ∃ A n c B m d, e = .returned (.tuple #[.slice A n c, .slice B m d]) ∧ Wd.Vs w' A n c l ∧ Wd.Sl w' .i64 B m d to ∧ Below w.heap.size w w'
/-- What is filled behind k rounds. -/
def Fil (l out : List Vl) (k : Nat) : Prop := out.length = l.length ∧ (∀ x ∈ l.take k, out[place l x]? = some x) ∧ ∀ j, j < out.length → Wd.V1 (out.getD j default)
theorem fil_zero {l : List Vl} : Fil l (List.replicate l.length null) 0 := ⟨by simp, fun x hx => by simp at hx, fun j hj => by
  have : (List.replicate l.length null).getD j default = null := by
    have h : j < l.length := by simpa using hj
    simp [List.getD, h]
  rw [this]
  exact Sx.v1_of Sc.ok_null⟩
theorem fil_step {l out : List Vl} {k : Nat} (hm : ∀ x ∈ l, May x) (hn : l.Nodup) (h : Fil l out k) (hk : k < l.length) (h1 : Wd.V1 (l.getD k default)) : Fil l (out.set (place l (l.getD k default)) (l.getD k default)) (k + 1) := by
  have hx : l.getD k default ∈ l := getD_mem hk
  have hp := place_lt hm hn hx
  refine ⟨by simp [h.1], fun y hy => ?_, fun j hj => ?_⟩
  · rw [List.take_add_one, getD_at hk] at hy
    by_cases e : y = l.getD k default
    · rw [e, List.getElem?_set, if_pos rfl, if_pos (by rw [h.1]; exact hp)]
    · have hy' : y ∈ l.take k := by
        rcases List.mem_append.1 hy with q | q
        · exact q
        · exact absurd (by simpa using q) e
      have hyl : y ∈ l := List.mem_of_mem_take hy'
      have hne : place l (l.getD k default) ≠ place l y := fun q => e (by
        have a := srt_place hm hn hx
        have b := srt_place hm hn hyl
        rw [q] at a
        exact Option.some.inj (b.symm.trans a))
      rw [List.getElem?_set, if_neg hne]
      exact h.2.1 y hy'
  · rw [List.length_set] at hj
    by_cases e : j = place l (l.getD k default)
    · subst e
      rw [List.getD_eq_getElem?_getD, List.getElem?_set]
      simp only [if_true, hj]
      exact h1
    · rw [List.getD_eq_getElem?_getD, List.getElem?_set, if_neg (fun q => e q.symm), ← List.getD_eq_getElem?_getD]
      exact h.2.2 j hj
theorem fil_all {l out : List Vl} (hm : ∀ x ∈ l, May x) (hn : l.Nodup) (h : Fil l out l.length) : out = srt l :=
  srt_is hm hn h.1 fun x hx => h.2.1 x (by rw [List.take_length]; exact hx)
theorem tos_getD {l : List Vl} {k : Nat} (hk : k < l.length) : (tos l).getD k 0 = (place l (l.getD k default) : Int) := by
  rw [List.getD_eq_getElem?_getD, tos_at (getD_at hk)]
  rfl
set_option maxHeartbeats 8000000 in
theorem refSorted_any (R : Option Addr) (m d : Nat) (l : List Vl) (w : World) (hV : Wd.Vs w R m d l) (hs : ∀ x ∈ l, x.s.size ≤ maxLen) (hmay : ∀ x ∈ l, May x) (hnd : l.Nodup) (hm : m ≤ 4096) :
    Calls Try.prog 19 #[.slice R m d] w (OutS w (srt l) (tos l)) := by
  obtain ⟨i0, hi, hz0, hz1, hz2⟩ := info_parts info_i
  obtain ⟨j0, hj, gz0, gz1, gz2⟩ := info_parts Wd.info_vl
  have Hm := Lib.hid hV.len
  have HV := Lib.hid hV
  have Hs := Lib.hid hs
  have Hmay := Lib.hid hmay
  have Hnd := Lib.hid hnd
  have hcap := hV.cap
  have hmx := hV.max
  unfold maxLen at hmx
  clear hV hs hmay hnd
  go_enter Try.func19, Try.ntmps19
  go_wp2_with (first
    | (at_make; refine wpList_make_full _ rfl (.tmp 8) (.tmp 8) 22 rfl w.heap.size 24 j0 _ 4 Try.underlying22 hj gz0 gz1 .i64 .i64 m m m rfl rfl rfl rfl (by rw [gz2]; omega) (by unfold maxLen; omega) (Nat.le_refl _) ?_; intro w1 hown1 hgrow1)
    | (at_make; refine wpList_make_full _ rfl (.tmp 11) (.tmp 11) 40 rfl w1.heap.size 3 i0 _ 1 Try.underlying40 hi hz0 hz1 .i64 .i64 m m m rfl rfl rfl rfl (by rw [hz2]; omega) (by unfold maxLen; omega) (Nat.le_refl _) ?_; intro w2 hown2 hgrow2))
  have hb1 : Below w.heap.size w w1 := (Below.refl _ _).grown hgrow1 (Nat.le_refl _) (by simp)
  have hb12 : Below w1.heap.size w1 w2 := (Below.refl _ _).grown hgrow2 (Nat.le_refl _) (by simp)
  rw [Wd.made_null] at hown1
  rw [Wd.made_zero] at hown2
  have hV1 := (Wd.RowV.of_own hown1).1
  have hg12 : w.heap.size < w1.heap.size := hV1.lt
  have hV2 := hV1.below hg12 hb12
  have hR2 := (Wd.Row.of_own hown2).1
  have hb2 : Below w.heap.size w w2 := hb1.trans (hb12.mono hb1.size)
  have hne12 : w.heap.size ≠ w1.heap.size := by omega
  have I0 := Lib.hid (And.intro hV2 (And.intro hR2 hb2))
  clear hown1 hown2 hgrow1 hgrow2 hV1 hV2 hR2 hb1 hb12 hb2
  go_loopw [6] (fun i wr => ∃ (k : Nat) (out : List Vl), i = .int .i64 k ∧ k ≤ m ∧ Hid (Fil l out k) ∧ Wd.RowV wr w.heap.size out ∧ Wd.Row wr w1.heap.size .i64 3 (Wd.fill (tos l) k) ∧ Below w.heap.size w wr) (fun i _ => m - (intOf i).toNat)
  case atStart =>
    refine ⟨0, List.replicate m null, rfl, Nat.zero_le _, Lib.hid (by rw [Hm.out]; exact fil_zero), I0.out.1, ?_, I0.out.2.2⟩
    rw [Wd.fill_zero, tos_len, ← Hm.out]
    exact I0.out.2.1
  case round =>
    obtain ⟨k, out, rfl, hk, hf, hRV, hR, hB⟩ := hrel
    by_cases hlt : k < m
    · have hkl : k < l.length := by rw [← Hm.out]; exact hlt
      obtain ⟨e, f, hA, heB, d0, d1, d2, d3, hv1⟩ := HV.out.cells (j := k) hkl rfl
      subst hA
      have Z := Lib.hid fun w' (hb : Below w.heap.size w w') => (⟨(hb.cell (p := ⟨e, f + k * 4, none⟩) heB).trans d0, (hb.cell (p := ⟨e, f + k * 4 + 1, none⟩) heB).trans d1, (hb.cell (p := ⟨e, f + k * 4 + 2, none⟩) heB).trans d2, (hb.cell (p := ⟨e, f + k * 4 + 3, none⟩) heB).trans d3⟩ : _ ∧ _ ∧ _ ∧ _)
      have hstep := fil_step Hmay.out Hnd.out hf.out hkl hv1
      have htos := tos_getD hkl
      have hpl := place_lt Hmay.out Hnd.out (getD_mem hkl)
      obtain ⟨v, hv⟩ : ∃ v, v = l.getD k default := ⟨_, rfl⟩
      rw [← hv] at Z hstep htos hpl
      have Cp := Place_any (some ⟨e, f, none⟩) m d l v.kind v.i v.s v.b wr (HV.out.below hB) Hs.out
      rw [show (⟨v.kind, v.i, v.s, v.b⟩ : Vl) = v from rfl] at Cp
      generalize place l v = p at *
      have hpm : p < m := by rw [Hm.out]; exact hpl
      have hpI : (p : Int) < (m : Int) := by omega
      have hol : out.length = m := by rw [hf.out.1, Hm.out]
      have hkt : k < (tos l).length := by rw [tos_len]; exact hkl
      have hst : Wd.Row (wr.setCell ⟨w1.heap.size, k, none⟩ (.int .i64 (p : Int))) w1.heap.size .i64 3 (Wd.fill (tos l) (k + 1)) := by
        rw [← Wd.fill_set (tos l) k hkt, htos]
        exact hR.set k _
      have Hstep := Lib.hid hstep
      have Htos := Lib.hid htos
      have Hkt := Lib.hid hkt
      have Cp' := Lib.hid Cp
      obtain ⟨z0, z1, z2, z3⟩ := Z.out wr hB
      clear d0 d1 d2 d3 hv hv1 hstep htos hpl Cp hf hst hkt
      go_wp2_with fail
      refine Cp'.out.mono ?_
      rintro q w4 ⟨rfl, hB4⟩
      have hRV4 := hRV.below hRV.lt hB4
      have hR4 := hR.below hR.lt hB4
      have hb4 := hB.trans (hB4.mono hB.size)
      have cg := hR4.cell k (by rw [Wd.fill_len]; exact Hkt.out)
      have cf := hR4.free k
      have hb5 : Below w.heap.size w (w4.setCell ⟨w1.heap.size, k, none⟩ (.int .i64 (p : Int))) := hb4.setCell (Nat.le_of_lt hg12) _
      have hR5 : Wd.Row (w4.setCell ⟨w1.heap.size, k, none⟩ (.int .i64 (p : Int))) w1.heap.size .i64 3 (Wd.fill (tos l) (k + 1)) := by
        rw [← Wd.fill_set (tos l) k Hkt.out, Htos.out]
        exact hR4.set k _
      have hRV5 : Wd.RowV (w4.setCell ⟨w1.heap.size, k, none⟩ (.int .i64 (p : Int))) w.heap.size out := hRV4.other hne12
      have c5 : (w4.setCell ⟨w1.heap.size, k, none⟩ (.int .i64 (p : Int))).cell? ⟨w1.heap.size, k, none⟩ = some (.int .i64 (p : Int)) := by
        rw [hR5.cell k (by rw [Wd.fill_len]; exact Hkt.out), ← Wd.fill_set (tos l) k Hkt.out, Htos.out]
        simp [List.getD, Wd.fill_len, Hkt.out]
      clear z0 z1 z2 z3 hRV hR hB4 hRV4 hR4 hb4 Cp'
      go_wp2_with fail
      generalize w4.setCell ⟨w1.heap.size, k, none⟩ (.int .i64 (p : Int)) = w5 at *
      obtain ⟨z0, z1, z2, z3⟩ := Z.out w5 hb5
      obtain ⟨x, ⟨u0, u1, u2, u3⟩, ⟨f0, f1, f2, f3⟩⟩ := hRV5.four (p := p) (by rw [hol]; exact hpm)
      clear cg cf
      go_region
      all_goals (
        go_wp2_with fail
        go_roundw
        case rel =>
          refine ⟨k + 1, out.set p v, by go_num, by omega, Hstep, (hRV5.set p (by rw [hol]; exact hpm) v).drew, ?_, ?_⟩
          · exact ((((hR5.other (a := ⟨w.heap.size, p * 4, none⟩) (Ne.symm hne12)).other (a := ⟨w.heap.size, p * 4 + 1, none⟩) (Ne.symm hne12)).other (a := ⟨w.heap.size, p * 4 + 2, none⟩) (Ne.symm hne12)).other (a := ⟨w.heap.size, p * 4 + 3, none⟩) (Ne.symm hne12)).drew
          · exact ((((hb5.setCell (Nat.le_refl _) _).setCell (Nat.le_refl _) _).setCell (Nat.le_refl _) _).setCell (Nat.le_refl _) _).drew
        case measure => simp [intOf]; omega)
    · have hkI : ¬ (k : Int) < m := by omega
      have hkm : k = m := by omega
      have e : out = srt l := fil_all Hmay.out Hnd.out (by have := hf.out; rw [hkm, Hm.out] at this; exact this)
      have e2 : Wd.fill (tos l) k = tos l := by rw [hkm, Hm.out, ← tos_len l, Wd.fill_all]
      have hv := hf.out.2.2
      have hol := hf.out.1
      rw [e2] at hR
      have HE := Lib.hid e
      clear e e2 hf hkm
      go_wp2_with fail
      go_ret2
      refine ⟨_, _, _, _, _, _, rfl, ?_, hR.sl m (by rw [tos_len]; exact Hm.out) (by unfold maxLen; omega), hB⟩
      rw [← HE.out]
      exact hRV.vs m (by rw [hol]; exact Hm.out) (by unfold maxLen; omega) hv
end Dx
end Go.Proofs.Ytiokajaadmfohaa
