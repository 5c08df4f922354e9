/- A block of values that is known whole: what make leaves, a value stored at a place. What the reference of layer 8 does: Sorted. What the comparisons of layer 1's reference do: Same (bytes), Ints (integers). What is kept while other blocks turn: blocks known whole, rows, maps; a world where nothing but given blocks has turned. What the statements of layer 8 ask of a dictionary in memory: contracts of its methods, as one word; the chapter's example. -/
import Derived.WalkKit
import Derived.WalkSpells
import Derived.Lib.Hide
import Derived.Deep.QuietTactic
import Derived.BigQuiet
import Derived.Maps.AppendAt
import Derived.Maps.Own
import Derived.Maps.Views
import Derived.Test.YtnhgijlhnamolaaDoorPk10
import Derived.Test.YtnhgijlhnamolaaDoorPk02
import Derived.Test.YtnhgijlhnamolaaDoorPk07
import Derived.Test.YtnhgijlhnamolaaDoorProg
namespace Go.Proofs.YtnhgijlhnamolaaDoor
set_option maxRecDepth 20000
open Go.RowKit
namespace Wd
open Va (Vl null)
/-- Block g is just the values L, and may be written. -/
def RowV (w : World) (g : Nat) (L : List Vl) : Prop := Wd.Bx w g 48 (flatV L).toArray
theorem flatV_set : ∀ (L : List Vl) (p : Nat) (v : Vl), p < L.length → ((((flatV L).set (p * 4) (.int .i64 v.kind)).set (p * 4 + 1) (.int .i64 v.i)).set (p * 4 + 2) (.string v.s)).set (p * 4 + 3) (.bool v.b) = flatV (L.set p v)
  | [], _, _, h => by simp at h
  | f :: r, 0, v, _ => by
    show ((((Value.int .i64 f.kind :: .int .i64 f.i :: .string f.s :: .bool f.b :: flatV r).set _ _).set _ _).set _ _).set _ _ = Value.int .i64 v.kind :: .int .i64 v.i :: .string v.s :: .bool v.b :: flatV r
    simp
  | f :: r, p + 1, v, h => by
    have ih := flatV_set r p v (by simpa using h)
    have e : flatV (f :: r) = Value.int .i64 f.kind :: .int .i64 f.i :: .string f.s :: .bool f.b :: flatV r := rfl
    have e2 : flatV ((f :: r).set (p + 1) v) = Value.int .i64 f.kind :: .int .i64 f.i :: .string f.s :: .bool f.b :: flatV (r.set p v) := rfl
    rw [e, e2, ← ih, show (p + 1) * 4 = p * 4 + 1 + 1 + 1 + 1 by omega, show p * 4 + 1 + 1 + 1 + 1 + 1 = p * 4 + 1 + 1 + 1 + 1 + 1 from rfl, show p * 4 + 1 + 1 + 1 + 1 + 2 = p * 4 + 2 + 1 + 1 + 1 + 1 by omega, show p * 4 + 1 + 1 + 1 + 1 + 3 = p * 4 + 3 + 1 + 1 + 1 + 1 by omega]
    simp only [List.set_cons_succ]
section
variable {w w' : World} {g : Nat} {L : List Vl}
theorem RowV.lt (h : RowV w g L) : g < w.heap.size := Wd.Bx.lt h
theorem RowV.below {B : Nat} (h : RowV w g L) (hg : g < B) (hb : Below B w w') : RowV w' g L := Wd.Bx.below h hg hb
theorem RowV.drew (h : RowV w g L) : RowV w.drew g L := h
theorem RowV.other (h : RowV w g L) {a : Addr} {u : Value} (ha : g ≠ a.block) : RowV (w.setCell a u) g L := by
  unfold RowV Bx
  rw [heap_setCell_other w a g u ha]
  exact h
/-- The cells of the p-th, and that they may be written. -/
theorem RowV.four (h : RowV w g L) {p : Nat} (hp : p < L.length) : ∃ x : Vl, (w.cell? ⟨g, p * 4, none⟩ = some (.int .i64 x.kind) ∧ w.cell? ⟨g, p * 4 + 1, none⟩ = some (.int .i64 x.i) ∧ w.cell? ⟨g, p * 4 + 2, none⟩ = some (.string x.s) ∧ w.cell? ⟨g, p * 4 + 3, none⟩ = some (.bool x.b))
    ∧ (w.frozen? ⟨g, p * 4, none⟩ = false ∧ w.frozen? ⟨g, p * 4 + 1, none⟩ = false ∧ w.frozen? ⟨g, p * 4 + 2, none⟩ = false ∧ w.frozen? ⟨g, p * 4 + 3, none⟩ = false) := by
  have c : ∀ i v, (vals (L.getD p default))[i]? = some v → w.cell? ⟨g, p * 4 + i, none⟩ = some v := fun i v hv => (Wd.Bx.cell h (p * 4 + i)).trans (by rw [List.getElem?_toArray]; exact flatV_get L p hp i v hv)
  exact ⟨L.getD p default, ⟨c 0 _ rfl, c 1 _ rfl, c 2 _ rfl, c 3 _ rfl⟩, Wd.Bx.free h _, Wd.Bx.free h _, Wd.Bx.free h _, Wd.Bx.free h _⟩
theorem RowV.set (h : RowV w g L) (p : Nat) (hp : p < L.length) (v : Vl) : RowV ((((w.setCell ⟨g, p * 4, none⟩ (.int .i64 v.kind)).setCell ⟨g, p * 4 + 1, none⟩ (.int .i64 v.i)).setCell ⟨g, p * 4 + 2, none⟩ (.string v.s)).setCell ⟨g, p * 4 + 3, none⟩ (.bool v.b)) g (L.set p v) := by
  have h1 := heap_setCell_same w g (p * 4) _ _ (.int .i64 v.kind) h
  have h2 := heap_setCell_same _ g (p * 4 + 1) _ _ (.int .i64 v.i) h1
  have h3 := heap_setCell_same _ g (p * 4 + 2) _ _ (.string v.s) h2
  have h4 := heap_setCell_same _ g (p * 4 + 3) _ _ (.bool v.b) h3
  unfold RowV Bx
  rw [h4, ← flatV_set L p v hp]
  simp
theorem RowV.of_own {base n : Nat} (h : w.ownsRow base 48 4 (.slice (some ⟨g, 0, none⟩) n n) n (flatV L)) : RowV w g L ∧ base ≤ g ∧ n = L.length := by
  have hl : n = L.length := by have := h.1; rw [flatV_len] at this; omega
  rcases h.2 with ⟨h', _⟩ | ⟨g', cap', cur, h', hb, hg, _, _, hs, ht⟩
  · simp at h'
  · simp only [Value.slice.injEq, Option.some.injEq, Addr.mk.injEq, and_true, true_and] at h'
    obtain ⟨rfl, _, rfl⟩ := h'
    refine ⟨?_, hb, hl⟩
    unfold RowV Bx
    rw [hg]
    have : cur = (flatV L).toArray := by
      rw [← ht, List.take_of_length_le (by simp; omega)]
    rw [this]
theorem RowV.vs (h : RowV w g L) (n : Nat) (hn : n = L.length) (hm : n ≤ maxLen) (h1 : ∀ j, j < L.length → V1 (L.getD j default)) : Vs w (some ⟨g, 0, none⟩) n n L :=
  ⟨hn, Nat.le_refl _, hm, by simp, fun j hj => ⟨g, 0, rfl, h.lt, fun i v hv => by rw [Nat.zero_add]; exact (Wd.Bx.cell h (j * 4 + i)).trans (by rw [List.getElem?_toArray]; exact flatV_get L j hj i v hv), h1 j hj⟩⟩
end
theorem made_null (n : Nat) : (madeCells (Value.agg #[.int .i64 0, .int .i64 0, .string ⟨#[]⟩, .bool false]).cells (n * 4)).toList = flatV (List.replicate n null) := by
  refine List.ext_getElem? fun j => ?_
  by_cases hj : j < n * 4
  · have hk : j / 4 < (List.replicate n null).length := by simp; omega
    have e : (List.replicate n null).getD (j / 4) default = null := by simp [List.getD, show j / 4 < n by omega]
    have hi : j % 4 < 4 := Nat.mod_lt _ (by omega)
    have key : ∀ i, i < 4 → (vals null)[i]? = some ((#[Value.int .i64 0, .int .i64 0, .string ⟨#[]⟩, .bool false] : Array Value)[i]!) := by
      intro i hi
      match i, hi with
      | 0, _ => rfl
      | 1, _ => rfl
      | 2, _ => rfl
      | 3, _ => rfl
    have h2 := flatV_get (List.replicate n null) (j / 4) hk (j % 4) _ (by rw [e]; exact key _ hi)
    rw [show j / 4 * 4 + j % 4 = j by omega] at h2
    rw [h2]
    simp [madeCells, Value.cells, hj]
  · rw [List.getElem?_eq_none (by simp [madeCells]; omega), List.getElem?_eq_none (by rw [flatV_len]; simp; omega)]
end Wd
end Go.Proofs.YtnhgijlhnamolaaDoor
namespace Go.Proofs.YtnhgijlhnamolaaDoor
set_option maxRecDepth 20000
open Go.RowKit
namespace Dx
open Va (Vl May ord null)
open Sc (tr tr_yes tr_no tr_iff)
open Dc
theorem info_i : (Tryd.prog.info? 3).map (fun i => (i.zero, i.size, i.bytes)) = some (some (.int .i64 0), 1, 8) := by kernel_rfl
/-- An answer of a row of values and a row of numbers. -/
def OutS (w : World) (l : List Vl) (to : List Int) (e : Ending) (w' : World) : Prop := ∃ A n c B m d, e = .returned (.tuple #[.slice A n c, .slice B m d]) ∧ Wd.Vs w' A n c l ∧ Wd.Sl w' .i64 B m d to ∧ Below w.heap.size w w'
/-- What is filled behind k rounds. -/
def Fil (l out : List Vl) (k : Nat) : Prop := out.length = l.length ∧ (∀ x ∈ l.take k, out[place l x]? = some x) ∧ ∀ j, j < out.length → Wd.V1 (out.getD j default)
theorem fil_zero {l : List Vl} : Fil l (List.replicate l.length null) 0 := ⟨by simp, fun x hx => by simp at hx, fun j hj => by
  have : (List.replicate l.length null).getD j default = null := by
    have h : j < l.length := by simpa using hj
    simp [List.getD, h]
  rw [this]
  exact Sx.v1_of Sc.ok_null⟩
theorem fil_step {l out : List Vl} {k : Nat} (hm : ∀ x ∈ l, May x) (hn : l.Nodup) (h : Fil l out k) (hk : k < l.length) (h1 : Wd.V1 (l.getD k default)) : Fil l (out.set (place l (l.getD k default)) (l.getD k default)) (k + 1) := by
  have hx : l.getD k default ∈ l := getD_mem hk
  have hp := place_lt hm hn hx
  refine ⟨by simp [h.1], fun y hy => ?_, fun j hj => ?_⟩
  · rw [List.take_add_one, getD_at hk] at hy
    by_cases e : y = l.getD k default
    · rw [e, List.getElem?_set, if_pos rfl, if_pos (by rw [h.1]; exact hp)]
    · have hy' : y ∈ l.take k := by
        rcases List.mem_append.1 hy with q | q
        · exact q
        · exact absurd (by simpa using q) e
      have hyl : y ∈ l := List.mem_of_mem_take hy'
      have hne : place l (l.getD k default) ≠ place l y := fun q => e (by
        have a := srt_place hm hn hx
        have b := srt_place hm hn hyl
        rw [q] at a
        exact Option.some.inj (b.symm.trans a))
      rw [List.getElem?_set, if_neg hne]
      exact h.2.1 y hy'
  · rw [List.length_set] at hj
    by_cases e : j = place l (l.getD k default)
    · subst e
      rw [List.getD_eq_getElem?_getD, List.getElem?_set]
      simp only [if_true, hj]
      exact h1
    · rw [List.getD_eq_getElem?_getD, List.getElem?_set, if_neg (fun q => e q.symm), ← List.getD_eq_getElem?_getD]
      exact h.2.2 j hj
theorem fil_all {l out : List Vl} (hm : ∀ x ∈ l, May x) (hn : l.Nodup) (h : Fil l out l.length) : out = srt l :=
  srt_is hm hn h.1 fun x hx => h.2.1 x (by rw [List.take_length]; exact hx)
theorem tos_getD {l : List Vl} {k : Nat} (hk : k < l.length) : (tos l).getD k 0 = (place l (l.getD k default) : Int) := by
  rw [List.getD_eq_getElem?_getD, tos_at (getD_at hk)]
  rfl
set_option maxHeartbeats 8000000 in
theorem refSorted_any (R : Option Addr) (m d : Nat) (l : List Vl) (w : World) (hV : Wd.Vs w R m d l) (hs : ∀ x ∈ l, x.s.size ≤ maxLen) (hmay : ∀ x ∈ l, May x) (hnd : l.Nodup) (hm : m ≤ 4096) :
    Calls Tryd.prog 31 #[.slice R m d] w (OutS w (srt l) (tos l)) := by
  obtain ⟨i0, hi, hz0, hz1, hz2⟩ := info_parts info_i
  obtain ⟨j0, hj, gz0, gz1, gz2⟩ := info_parts Wd.info_vl
  have Hm := Lib.hid hV.len
  have HV := Lib.hid hV
  have Hs := Lib.hid hs
  have Hmay := Lib.hid hmay
  have Hnd := Lib.hid hnd
  have hcap := hV.cap
  have hmx := hV.max
  unfold maxLen at hmx
  clear hV hs hmay hnd
  go_enter Tryd.func31, Tryd.ntmps31
  go_wp2_with (first
    | (at_make; refine wpList_make_full _ rfl (.tmp 8) (.tmp 8) 22 rfl w.heap.size 48 j0 _ 4 Tryd.underlying22 hj gz0 gz1 .i64 .i64 m m m rfl rfl rfl rfl (by rw [gz2]; omega) (by unfold maxLen; omega) (Nat.le_refl _) ?_; intro w1 hown1 hgrow1)
    | (at_make; refine wpList_make_full _ rfl (.tmp 11) (.tmp 11) 45 rfl w1.heap.size 3 i0 _ 1 Tryd.underlying45 hi hz0 hz1 .i64 .i64 m m m rfl rfl rfl rfl (by rw [hz2]; omega) (by unfold maxLen; omega) (Nat.le_refl _) ?_; intro w2 hown2 hgrow2))
  have hb1 : Below w.heap.size w w1 := (Below.refl _ _).grown hgrow1 (Nat.le_refl _) (by simp)
  have hb12 : Below w1.heap.size w1 w2 := (Below.refl _ _).grown hgrow2 (Nat.le_refl _) (by simp)
  rw [Wd.made_null] at hown1
  rw [Wd.made_zero] at hown2
  have hV1 := (Wd.RowV.of_own hown1).1
  have hg12 : w.heap.size < w1.heap.size := hV1.lt
  have hV2 := hV1.below hg12 hb12
  have hR2 := (Wd.Row.of_own hown2).1
  have hb2 : Below w.heap.size w w2 := hb1.trans (hb12.mono hb1.size)
  have hne12 : w.heap.size ≠ w1.heap.size := by omega
  have I0 := Lib.hid (And.intro hV2 (And.intro hR2 hb2))
  clear hown1 hown2 hgrow1 hgrow2 hV1 hV2 hR2 hb1 hb12 hb2
  go_loopw [6] (fun i wr => ∃ (k : Nat) (out : List Vl), i = .int .i64 k ∧ k ≤ m ∧ Hid (Fil l out k) ∧ Wd.RowV wr w.heap.size out ∧ Wd.Row wr w1.heap.size .i64 3 (Wd.fill (tos l) k) ∧ Below w.heap.size w wr) (fun i _ => m - (intOf i).toNat)
  case atStart =>
    refine ⟨0, List.replicate m null, rfl, Nat.zero_le _, Lib.hid (by rw [Hm.out]; exact fil_zero), I0.out.1, ?_, I0.out.2.2⟩
    rw [Wd.fill_zero, tos_len, ← Hm.out]
    exact I0.out.2.1
  case round =>
    obtain ⟨k, out, rfl, hk, hf, hRV, hR, hB⟩ := hrel
    by_cases hlt : k < m
    · have hkl : k < l.length := by rw [← Hm.out]; exact hlt
      obtain ⟨e, f, hA, heB, d0, d1, d2, d3, hv1⟩ := HV.out.cells (j := k) hkl rfl
      subst hA
      have Z := Lib.hid fun w' (hb : Below w.heap.size w w') => (⟨(hb.cell (p := ⟨e, f + k * 4, none⟩) heB).trans d0, (hb.cell (p := ⟨e, f + k * 4 + 1, none⟩) heB).trans d1, (hb.cell (p := ⟨e, f + k * 4 + 2, none⟩) heB).trans d2, (hb.cell (p := ⟨e, f + k * 4 + 3, none⟩) heB).trans d3⟩ : _ ∧ _ ∧ _ ∧ _)
      have hstep := fil_step Hmay.out Hnd.out hf.out hkl hv1
      have htos := tos_getD hkl
      have hpl := place_lt Hmay.out Hnd.out (getD_mem hkl)
      obtain ⟨v, hv⟩ : ∃ v, v = l.getD k default := ⟨_, rfl⟩
      rw [← hv] at Z hstep htos hpl
      have Cp := Place_any (some ⟨e, f, none⟩) m d l v.kind v.i v.s v.b wr (HV.out.below hB) Hs.out
      rw [show (⟨v.kind, v.i, v.s, v.b⟩ : Vl) = v from rfl] at Cp
      generalize place l v = p at *
      have hpm : p < m := by rw [Hm.out]; exact hpl
      have hpI : (p : Int) < (m : Int) := by omega
      have hol : out.length = m := by rw [hf.out.1, Hm.out]
      have hkt : k < (tos l).length := by rw [tos_len]; exact hkl
      have hst : Wd.Row (wr.setCell ⟨w1.heap.size, k, none⟩ (.int .i64 (p : Int))) w1.heap.size .i64 3 (Wd.fill (tos l) (k + 1)) := by
        rw [← Wd.fill_set (tos l) k hkt, htos]
        exact hR.set k _
      have Hstep := Lib.hid hstep
      have Htos := Lib.hid htos
      have Hkt := Lib.hid hkt
      have Cp' := Lib.hid Cp
      obtain ⟨z0, z1, z2, z3⟩ := Z.out wr hB
      clear d0 d1 d2 d3 hv hv1 hstep htos hpl Cp hf hst hkt
      go_wp2_with fail
      refine Cp'.out.mono ?_
      rintro q w4 ⟨rfl, hB4⟩
      have hRV4 := hRV.below hRV.lt hB4
      have hR4 := hR.below hR.lt hB4
      have hb4 := hB.trans (hB4.mono hB.size)
      have cg := hR4.cell k (by rw [Wd.fill_len]; exact Hkt.out)
      have cf := hR4.free k
      have hb5 : Below w.heap.size w (w4.setCell ⟨w1.heap.size, k, none⟩ (.int .i64 (p : Int))) := hb4.setCell (Nat.le_of_lt hg12) _
      have hR5 : Wd.Row (w4.setCell ⟨w1.heap.size, k, none⟩ (.int .i64 (p : Int))) w1.heap.size .i64 3 (Wd.fill (tos l) (k + 1)) := by
        rw [← Wd.fill_set (tos l) k Hkt.out, Htos.out]
        exact hR4.set k _
      have hRV5 : Wd.RowV (w4.setCell ⟨w1.heap.size, k, none⟩ (.int .i64 (p : Int))) w.heap.size out := hRV4.other hne12
      have c5 : (w4.setCell ⟨w1.heap.size, k, none⟩ (.int .i64 (p : Int))).cell? ⟨w1.heap.size, k, none⟩ = some (.int .i64 (p : Int)) := by
        rw [hR5.cell k (by rw [Wd.fill_len]; exact Hkt.out), ← Wd.fill_set (tos l) k Hkt.out, Htos.out]
        simp [List.getD, Wd.fill_len, Hkt.out]
      clear z0 z1 z2 z3 hRV hR hB4 hRV4 hR4 hb4 Cp'
      go_wp2_with fail
      generalize w4.setCell ⟨w1.heap.size, k, none⟩ (.int .i64 (p : Int)) = w5 at *
      obtain ⟨z0, z1, z2, z3⟩ := Z.out w5 hb5
      obtain ⟨x, ⟨u0, u1, u2, u3⟩, ⟨f0, f1, f2, f3⟩⟩ := hRV5.four (p := p) (by rw [hol]; exact hpm)
      clear cg cf
      go_region
      all_goals (
        go_wp2_with fail
        go_roundw
        case rel =>
          refine ⟨k + 1, out.set p v, by go_num, by omega, Hstep, (hRV5.set p (by rw [hol]; exact hpm) v).drew, ?_, ?_⟩
          · exact ((((hR5.other (a := ⟨w.heap.size, p * 4, none⟩) (Ne.symm hne12)).other (a := ⟨w.heap.size, p * 4 + 1, none⟩) (Ne.symm hne12)).other (a := ⟨w.heap.size, p * 4 + 2, none⟩) (Ne.symm hne12)).other (a := ⟨w.heap.size, p * 4 + 3, none⟩) (Ne.symm hne12)).drew
          · exact ((((hb5.setCell (Nat.le_refl _) _).setCell (Nat.le_refl _) _).setCell (Nat.le_refl _) _).setCell (Nat.le_refl _) _).drew
        case measure => simp [intOf]; omega)
    · have hkI : ¬ (k : Int) < m := by omega
      have hkm : k = m := by omega
      have e : out = srt l := fil_all Hmay.out Hnd.out (by have := hf.out; rw [hkm, Hm.out] at this; exact this)
      have e2 : Wd.fill (tos l) k = tos l := by rw [hkm, Hm.out, ← tos_len l, Wd.fill_all]
      have hv := hf.out.2.2
      have hol := hf.out.1
      rw [e2] at hR
      have HE := Lib.hid e
      clear e e2 hf hkm
      go_wp2_with fail
      go_ret2
      refine ⟨_, _, _, _, _, _, rfl, ?_, hR.sl m (by rw [tos_len]; exact Hm.out) (by unfold maxLen; omega), hB⟩
      rw [← HE.out]
      exact hRV.vs m (by rw [hol]; exact Hm.out) (by unfold maxLen; omega) hv
end Dx
end Go.Proofs.YtnhgijlhnamolaaDoor
namespace Go.Proofs.YtnhgijlhnamolaaDoor
set_option maxRecDepth 20000
open Go.RowKit
namespace Nc

set_option maxHeartbeats 400000 in
theorem ints_any (A B : Option Addr) (n m c d : Nat) (xs ys : List Int) (w : World) (ha : Wd.Sl w .i64 A n c xs) (hb : Wd.Sl w .i64 B m d ys) :
    Calls Tryd.prog 25 #[.slice A n c, .slice B m d] w fun e w' => e = .returned (.bool (decide (xs = ys))) ∧ ∃ q, w' = w.drewN q := by
  obtain ⟨rfl, hc, hx, hA, hr⟩ := ha
  obtain ⟨rfl, hd, hy, hB, hs⟩ := hb
  unfold maxLen at hx hy
  by_cases hl : xs.length = ys.length
  · have hne : ((xs.length : Int) != (ys.length : Int)) = false := by rw [hl]; simp
    have Hl := Lib.hid hl
    clear hl
    rcases Nat.eq_zero_or_pos xs.length with h0 | h0
    · have hx0 : xs = [] := List.eq_nil_of_length_eq_zero h0
      have hy0 : ys = [] := List.eq_nil_of_length_eq_zero (by rw [← Hl.out]; exact h0)
      subst hx0
      subst hy0
      go_enter Tryd.func25, Tryd.ntmps25
      go_wp2_with fail
      refine wp_loop_rounds 1 ?_
      rw [rounds_succ]
      go_wp2_with fail
      go_ret
      exact ⟨rfl, 0, rfl⟩
    · obtain ⟨a1, o1, rfl, _, hcx⟩ := hr.some_ h0
      obtain ⟨a2, o2, rfl, _, hcy⟩ := hs.some_ (by rw [← Hl.out]; exact h0)
      clear hr hs hA hB
      have hle1 : xs.length ≤ ys.length := by rw [Hl.out]; exact Nat.le_refl _
      have hle2 : ys.length ≤ xs.length := by rw [Hl.out]; exact Nat.le_refl _
      go_enter Tryd.func25, Tryd.ntmps25
      go_wp2_with fail
      go_loopw [5] (fun i wr => ∃ (k q : Nat), i = .int .i64 k ∧ k ≤ xs.length ∧ wr = w.drewN q ∧ xs.take k = ys.take k) (fun i _ => xs.length - (intOf i).toNat)
      case atStart => exact ⟨0, 0, rfl, Nat.zero_le _, rfl, rfl⟩
      case round =>
        obtain ⟨k, q, rfl, hk, rfl, ht⟩ := hrel
        have Ht := Lib.hid ht
        clear ht
        by_cases hlt : k < xs.length
        · have hlt2 : k < ys.length := by omega
          have c1 := hcx k hlt
          have c2 := hcy k hlt2
          obtain ⟨x, hx'⟩ : ∃ x, x = xs.getD k 0 := ⟨_, rfl⟩
          obtain ⟨y, hy'⟩ : ∃ y, y = ys.getD k 0 := ⟨_, rfl⟩
          rw [← hx'] at c1
          rw [← hy'] at c2
          have Hx := Lib.hid hx'
          have Hy := Lib.hid hy'
          clear hx' hy' hcx hcy
          have i1 : (k : Int) < (xs.length : Int) := by omega
          have i2 : (k : Int) < (ys.length : Int) := by omega
          by_cases hxy : x = y
          · have hbq : (x != y) = false := by rw [hxy]; simp
            have Hxy := Lib.hid hxy
            clear hxy
            go_wp2_with fail
            go_quiet (fail)
            go_wp2_with fail
            go_roundw
            case rel =>
              refine ⟨k + 1, _, by go_num, by omega, rfl, ?_⟩
              rw [List.take_succ_eq_append_getElem hlt, List.take_succ_eq_append_getElem hlt2, Ht.out]
              have e1 := Hx.out
              have e2 := Hy.out
              simp only [List.getD, List.getElem?_eq_getElem hlt, List.getElem?_eq_getElem hlt2, Option.getD_some] at e1 e2
              rw [← e1, ← e2, Hxy.out]
            case measure => simp [intOf]; omega
          · have hbq : (x != y) = true := by rw [bne_iff_ne]; exact hxy
            have Hxy := Lib.hid hxy
            clear hxy
            go_wp2_with fail
            go_quiet (fail)
            go_wp2_with fail
            go_ret
            refine ⟨?_, _, World.drewN_drewN _ _ _⟩
            rw [decide_eq_false (fun e => Hxy.out (by rw [Hx.out, Hy.out, e]))]
            rfl
        · go_wp2_with fail
          go_ret
          refine ⟨?_, _, rfl⟩
          have := Ht.out
          rw [List.take_of_length_le (by omega), List.take_of_length_le (by omega)] at this
          rw [decide_eq_true this]
          rfl
  · have hne : ((xs.length : Int) != (ys.length : Int)) = true := by rw [bne_iff_ne]; omega
    go_enter Tryd.func25, Tryd.ntmps25
    go_wp2_with fail
    go_ret
    refine ⟨?_, 0, rfl⟩
    rw [decide_eq_false (fun e => hl (by rw [e]))]
    rfl
theorem ints_yes (A B : Option Addr) (n m c d : Nat) (xs ys : List Int) (w : World) (ha : Wd.Sl w .i64 A n c xs) (hb : Wd.Sl w .i64 B m d ys) (h : xs = ys) :
    Calls Tryd.prog 25 #[.slice A n c, .slice B m d] w fun e w' => e = .returned (.bool true) ∧ Below w.heap.size w w' :=
  (ints_any A B n m c d xs ys w ha hb).mono fun _ _ ⟨he, q, hq⟩ => ⟨by rw [he, decide_eq_true h], by rw [hq]; exact Wd.below_drewN (Below.refl _ _) q⟩
end Nc
end Go.Proofs.YtnhgijlhnamolaaDoor
namespace Go.Proofs.YtnhgijlhnamolaaDoor
set_option maxRecDepth 20000
open Go.RowKit Go.Maps
namespace Wd
section
variable {w w' : World} {g : Nat} {t : TypeId} {cs : Array Value}
theorem Bx.set (h : Bx w g t cs) (j : Nat) (u : Value) : Bx (w.setCell ⟨g, j, none⟩ u) g t (cs.setIfInBounds j u) := by
  unfold Bx
  rw [heap_setCell_same w g j cs t _ h]
theorem Bx.other (h : Bx w g t cs) {a : Addr} (ha : g ≠ a.block) (u : Value) : Bx (w.setCell a u) g t cs := by
  unfold Bx
  rw [heap_setCell_other w a g u ha]
  exact h
theorem Bx.drew (h : Bx w g t cs) : Bx w.drew g t cs := h
theorem Bx.at_ (h : Bx w g t cs) (e : w'.heap[g]? = w.heap[g]?) : Bx w' g t cs := e.trans h
theorem own_keep {B : Nat} {e : TypeId} {size n : Nat} {v : Value} {xs : List Value} (h : w.ownsRow B e size v n xs) (hk : ∀ x, v.ownBlock = some x → w'.heap[x]? = w.heap[x]?) : w'.ownsRow B e size v n xs := by
  obtain ⟨h1, h2⟩ := h
  refine ⟨h1, ?_⟩
  rcases h2 with h2 | ⟨g, cap, cur, hv, hg, hh, r⟩
  · exact .inl h2
  · exact .inr ⟨g, cap, cur, hv, hg, by rw [hk g (by rw [hv]; rfl)]; exact hh, r⟩
theorem own_lt {B : Nat} {e : TypeId} {size n : Nat} {v : Value} {xs : List Value} (h : w.ownsRow B e size v n xs) {x : Nat} (hx : v.ownBlock = some x) : x < w.heap.size ∧ B ≤ x ∧ ∃ cur, w.heap[x]? = some (.cells cur e (0, 0)) := by
  rcases h.2 with ⟨rfl, _⟩ | ⟨g, cap, cur, rfl, hg, hh, r⟩
  · simp [Value.ownBlock] at hx
  · have : g = x := by simpa [Value.ownBlock] using hx
    subst this
    exact ⟨lt_of_block hh, hg, cur, hh⟩
/-- The cut 'v[:k]' of a row of the call's own. -/
theorem own_head {B : Nat} {e : TypeId} {A : Option Addr} {n c k : Nat} {xs : List Value} (h : w.ownsRow B e 1 (.slice A n c) n xs) (hk : k ≤ n) : w.ownsRow B e 1 (.slice A k c) k (xs.take k) := by
  obtain ⟨h1, h2⟩ := h
  refine ⟨by simp; omega, ?_⟩
  rcases h2 with ⟨h2, h3⟩ | ⟨g, cap, cur, hv, hg, hh, r1, r2, r3, r4⟩
  · subst h3
    obtain rfl : k = 0 := by omega
    exact .inl ⟨h2, rfl⟩
  · simp only [Value.slice.injEq, true_and] at hv
    obtain ⟨rfl, rfl⟩ := hv
    refine .inr ⟨g, _, cur, rfl, hg, hh, by omega, r2, r3, ?_⟩
    rw [← r4, List.take_take]
    congr 1
    omega
theorem map_keep {H : Type} {P : Program} {k : TypeId} {R : Value → Option (DataW H × List MemPlace)} {b n : Nat} {D : DataW H} (h : w.ownsMap P k R b n D) (e : w'.heap[b]? = w.heap[b]?) : w'.ownsMap P k R b n D := by
  obtain ⟨es, clock, hb, r⟩ := h
  exact ⟨es, clock, e.trans hb, r⟩
/-- As tight as may be. -/
theorem map_tight {H : Type} {P : Program} {k : TypeId} {R : Value → Option (DataW H × List MemPlace)} {b n : Nat} {D : DataW H} (h : w.ownsMap P k R b n D) : w.ownsMap P k R b (Maps.size D) D := by
  obtain ⟨es, clock, hb, F, hs, rfl⟩ := h
  exact ⟨es, clock, hb, F, by simp [Maps.size, length_sorted], rfl⟩
end

/-- Nothing but the blocks of G has turned, and there may be new ones. -/
structure Mv (G : Nat → Prop) (w w' : World) : Prop where
  os : w'.os = w.os
  tape : w'.tape = w.tape
  output : w'.output = w.output
  size : w.heap.size ≤ w'.heap.size
  keep : ∀ g, g < w.heap.size → ¬ G g → w'.heap[g]? = w.heap[g]?
/-- G, and what is new. -/
def Gr (G : Nat → Prop) (w w' : World) (g : Nat) : Prop := G g ∨ (w.heap.size ≤ g ∧ g < w'.heap.size)
section
variable {G : Nat → Prop} {w w' w'' : World} {B : Nat}
theorem Mv.refl (G : Nat → Prop) (w : World) : Mv G w w := ⟨rfl, rfl, rfl, Nat.le_refl _, fun _ _ _ => rfl⟩
theorem Mv.mono {G' : Nat → Prop} (h : Mv G w w') (hG : ∀ g, G g → G' g) : Mv G' w w' := ⟨h.os, h.tape, h.output, h.size, fun g hg hn => h.keep g hg (fun k => hn (hG g k))⟩
theorem Mv.trans (h : Mv G w w') (k : Mv (Gr G w w') w' w'') : Mv G w w'' :=
  ⟨k.os.trans h.os, k.tape.trans h.tape, k.output.trans h.output, Nat.le_trans h.size k.size, fun g hg hn =>
    (k.keep g (Nat.lt_of_lt_of_le hg h.size) (fun q => by rcases q with q | q; exact hn q; omega)).trans (h.keep g hg hn)⟩
theorem Mv.then (h : Mv G w w') (k : Mv G w' w'') : Mv G w w'' := h.trans (k.mono fun _ hg => .inl hg)
theorem Gr.trans (h : w.heap.size ≤ w'.heap.size) (k : w'.heap.size ≤ w''.heap.size) (g : Nat) : Gr (Gr G w w') w' w'' g ↔ Gr G w w'' g := by
  unfold Gr
  constructor
  · rintro ((q | q) | q)
    · exact .inl q
    · exact .inr (by omega)
    · exact .inr (by omega)
  · rintro (q | q)
    · exact .inl (.inl q)
    · by_cases e : g < w'.heap.size
      · exact .inl (.inr (by omega))
      · exact .inr (by omega)
theorem Gr.eq (h : w.heap.size ≤ w'.heap.size) (k : w'.heap.size ≤ w''.heap.size) : Gr (Gr G w w') w' w'' = Gr G w w'' := funext fun g => propext (Gr.trans h k g)
theorem Mv.of_below (h : Below w.heap.size w w') : Mv G w w' := ⟨h.os, h.tape, h.output, h.size, fun g hg _ => h.block g hg⟩
theorem Mv.of_grown {row : Option Nat} (h : w.grownBy w' row) (hr : ∀ g, row = some g → G g) : Mv G w w' :=
  ⟨h.os, h.tape, h.output, h.size, fun g hg hn => h.block g hg (fun e => hn (hr g e.symm))⟩
theorem Mv.below (h : Mv G w w') (hG : ∀ g, G g → B ≤ g) (hB : B ≤ w.heap.size) : Below B w w' :=
  ⟨h.os, h.tape, h.output, h.size, fun g hg => h.keep g (by omega) (fun k => by have := hG g k; omega)⟩
theorem Mv.alloc (h : Mv G w w') (o : Obj) : Mv G w (w'.alloc o) := h.then (Mv.of_grown (World.grownBy_alloc w' o none) (by simp))
theorem Mv.set (h : Mv G w w') {a : Addr} (ha : G a.block) (u : Value) : Mv G w (w'.setCell a u) :=
  h.then ⟨rfl, rfl, rfl, by simp [World.setCell], fun g hg hn => Below.heap_setCell _ _ _ _ (fun e => hn (e ▸ ha))⟩
theorem Mv.drew (h : Mv G w w') : Mv G w w'.drew := ⟨h.os, h.tape, h.output, h.size, h.keep⟩
theorem Gr.ge (hG : ∀ g, G g → B ≤ g) (hB : B ≤ w.heap.size) : ∀ g, Gr G w w' g → B ≤ g := by
  rintro g (q | q)
  · exact hG g q
  · omega
theorem Gr.lt (hG : ∀ g, G g → g < w.heap.size) (h : w.heap.size ≤ w'.heap.size) : ∀ g, Gr G w w' g → g < w'.heap.size := by
  rintro g (q | q)
  · exact Nat.lt_of_lt_of_le (hG g q) h
  · exact q.2
end
end Wd
end Go.Proofs.YtnhgijlhnamolaaDoor
namespace Go.Proofs.YtnhgijlhnamolaaDoor
set_option maxRecDepth 20000
open Go.RowKit
namespace Dx
open Va (Vl May ord null)
open Sc (tr tr_yes tr_no tr_iff)
open Dc
/-- A value as the machine holds it. -/
def ag (v : Vl) : Value := .agg #[.int .i64 v.kind, .int .i64 v.i, .string v.s, .bool v.b]
/-- Values whose numbers are the machine's, and whose texts are no longer than any. -/
def Okv (v : Vl) : Prop := Wd.V1 v ∧ v.s.size ≤ maxLen
variable {D : World → Nat → List Vl → Int → (Nat → Prop) → Prop}
end Dx
end Go.Proofs.YtnhgijlhnamolaaDoor
