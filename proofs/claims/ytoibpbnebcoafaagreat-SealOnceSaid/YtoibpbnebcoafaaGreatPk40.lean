/- Package seal: Rows, by a method value of the table. Package seal: mayOffsets. Package seal: mayCols. -/
import Derived.Deep.RegionHeld3
import Derived.Lib.Hide
import Derived.Deep.DeepCutAuto
import Derived.Test.YtoibpbnebcoafaaGreatPk39
import Derived.Test.YtoibpbnebcoafaaGreatPk38
import Derived.Test.YtoibpbnebcoafaaGreatPk15
import Derived.Test.YtoibpbnebcoafaaGreatPk28
namespace Go.Proofs.YtoibpbnebcoafaaGreat
set_option maxRecDepth 20000
open Go.RowKit
namespace Se
open Va (Vl May null)
open Sc (Sch tr tr_yes tr_no tr_iff tr_congr)
open Wd (Cr)
open Co (values)
/-- Row i of a table of height h. -/
def trow (ys : List (List Vl)) (h i : Int) : List Vl := if i < h then ys.map fun y => y.getD i.toNat default else []
set_option maxHeartbeats 8000000 in
theorem trow_any (V : Option Addr) (tn tc : Nat) (ys : List (List Vl)) (h i : Int) (w : World) (hL : Wd.Ls w V tn tc ys) (hi0 : 0 ≤ i) (hi1 : i ≤ 1000000000) (hb : i < h → ∀ j, j < ys.length → i < ((ys.getD j []).length : Int)) (htn : tn ≤ 1000000) :
    Calls Tryz.prog 48 #[.agg #[.slice V tn tc, .int .i64 h], .int .i64 i] w (Cx.OutV w (trow ys h i)) := by
  obtain ⟨j0, hj, gz0, gz1, gz2⟩ := info_parts Wd.info_vl
  obtain ⟨zv, hzv⟩ : ∃ zv : Array Value, zv = (Wd.flatV (List.replicate tn null)).toArray := ⟨_, rfl⟩
  have hmv : ∀ X : World, (Instr.makeSlice 45 (.int .i64 (tn : Int)) (.int .i64 (tn : Int))).run Tryz.prog X = .ok (.slice (some ⟨X.heap.size, 0, none⟩) tn tn) (X.alloc (.cells zv 56)) := fun X => by
    have := run_make (P := Tryz.prog) X 45 56 j0 _ Tryz.underlying45 hj gz0 .i64 .i64 (tn : Int) (tn : Int) (by omega) (by omega) (by rw [gz2]; omega) (by omega)
    rw [this, hzv, gz1, Int.toNat_natCast, ← Wd.made_null]
  obtain ⟨w1, hw1⟩ : ∃ w1, w1 = w.alloc (.cells #[.slice V tn tc, .int .i64 h] 83) := ⟨_, rfl⟩
  have hz := Lib.hid (show w1.heap.size = w.heap.size + 1 by rw [hw1]; simp)
  have hb1 : Below w.heap.size w w1 := by rw [hw1]; exact (Below.refl _ _).alloc (Nat.le_refl _) _
  have x1 : Wd.Bx w1 w.heap.size 83 #[.slice V tn tc, .int .i64 h] := by rw [hw1]; exact Wd.Bx.new _ _ _
  have rowv : Wd.RowV (w1.alloc (.cells zv 56)) w1.heap.size (List.replicate tn null) := by rw [hzv]; exact Wd.Bx.new w1 _ _
  have d0 := x1.cell 0
  have d1 := x1.cell 1
  have e0 := (x1.alloc (.cells zv 56)).cell 0
  have Htn := Lib.hid hL.len
  have HL := Lib.hid hL
  have Hb1 := Lib.hid hb1
  have Hw1 := Lib.hid hw1
  have hcap := hL.cap
  have hmx := hL.max
  unfold maxLen at hmx
  have I0 := Lib.hid (And.intro rowv ((Below.refl w1.heap.size w1).alloc (Nat.le_refl _) (.cells zv 56)))
  have hzl : w.heap.size < w1.heap.size := x1.lt
  have HB := Lib.hid hb
  clear hw1 hL x1 hb1 hzv rowv hb
  go_enter Tryz.func48, Tryz.ntmps48
  by_cases hih : h ≤ i
  · have t2 := Lib.hid (show trow ys h i = [] by unfold trow; rw [if_neg (by omega)])
    go_upto_region 1 with fail
    rw [← Hw1.out]
    go_wp2_with fail
    go_ret
    exact ⟨none, 0, 0, rfl, by rw [t2.out]; exact Wd.Vs.none_ _, Hb1.out⟩
  · obtain ⟨T, hT⟩ : ∃ T, T = trow ys h i := ⟨_, rfl⟩
    have hTl : T.length = tn := by rw [hT, trow, if_pos (by omega), List.length_map, ← Htn.out]
    have hTk : ∀ k, k < ys.length → T.getD k default = (ys.getD k []).getD i.toNat default := fun k hk => by
      rw [hT, trow, if_pos (by omega), List.getD_eq_getElem?_getD, List.getElem?_map, List.getElem?_eq_getElem hk, List.getD_eq_getElem?_getD (l := ys), List.getElem?_eq_getElem hk]
      rfl
    rw [← hT]
    have HTl := Lib.hid hTl
    have HTk := Lib.hid hTk
    obtain ⟨I, hI⟩ : ∃ I : Nat, i = (I : Int) := ⟨i.toNat, by omega⟩
    subst hI
    clear hT hTl hTk
    go_upto_region 1 with fail
    rw [← Hw1.out]
    go_wp2_with fail
    clear d0 d1 e0 hmv
    generalize w1.alloc (.cells zv 56) = w2 at *
    go_loopw [19] (fun j wr => ∃ (k : Nat) (vs : List Vl), j = .int .i64 k ∧ k ≤ tn ∧ Hid (Wd.RowV wr w1.heap.size vs ∧ vs.length = tn ∧ vs.take k = T.take k ∧ Below w1.heap.size w1 wr)) (fun j _ => tn - (intOf j).toNat)
    case atStart => exact ⟨0, _, rfl, Nat.zero_le _, Lib.hid ⟨I0.out.1, by simp, by simp, I0.out.2⟩⟩
    case round =>
      clear I0
      obtain ⟨k, vs, rfl, hk, hR⟩ := hrel
      by_cases hlt : k < tn
      · have hkI : (k : Int) < (tn : Int) := by omega
        have hko : k < ys.length := by rw [← Htn.out]; exact hlt
        have hbw : Below w.heap.size w wr := Hb1.out.trans (hR.out.2.2.2.mono Hb1.out.size)
        obtain ⟨b, f, A', n', c', hA, _, c0, hV⟩ := (HL.out.below hbw).at_ k hko
        have hIl := HB.out (by omega) k hko
        have hTv := HTk.out k hko
        have hn' := hV.len
        obtain ⟨b2, f2, hA2, _, e0, e1, e2, e3, _⟩ := hV.cells (j := I) (by omega) rfl
        subst hA hA2
        rw [Int.toNat_natCast] at hTv
        have In : (I : Int) < (n' : Int) := by omega
        obtain ⟨v, hv⟩ : ∃ v, v = (ys.getD k []).getD I default := ⟨_, rfl⟩
        rw [← hv] at e0 e1 e2 e3 hTv
        have hkv : k < vs.length := by rw [hR.out.2.1]; exact hlt
        obtain ⟨y, ⟨y0, y1, y2, y3⟩, g0, g1, g2, g3⟩ := hR.out.1.four hkv
        have hset := hR.out.1.set k hkv v
        have htk := mixv (T := T) (V := vs) (i := k) (by rw [HTl.out]; exact hlt) (by rw [HTl.out, hR.out.2.1]) hR.out.2.2.1
        rw [hTv] at htk
        have hB5 := (((hR.out.2.2.2.setCell (p := ⟨w1.heap.size, k * 4, none⟩) (Nat.le_refl _) (.int .i64 v.kind)).setCell (p := ⟨w1.heap.size, k * 4 + 1, none⟩) (Nat.le_refl _) (.int .i64 v.i)).setCell (p := ⟨w1.heap.size, k * 4 + 2, none⟩) (Nat.le_refl _) (.string v.s)).setCell (p := ⟨w1.heap.size, k * 4 + 3, none⟩) (Nat.le_refl _) (.bool v.b)
        have H5 := Lib.hid (And.intro hset (And.intro (show (vs.set k v).length = tn by simp [hR.out.2.1]) (And.intro htk hB5)))
        clear hset htk hB5 hR hV hn' hIl hTv hv hkv hbw hko
        go_wp2_with fail
        go_roundw
        case rel => exact ⟨k + 1, vs.set k v, by go_num, by omega, H5⟩
        case measure => simp [intOf]; omega
      · have hkI : ¬ (k : Int) < (tn : Int) := by omega
        obtain rfl : k = tn := by omega
        have hvs : vs = T := by
          have := hR.out.2.2.1
          rw [List.take_of_length_le (by rw [hR.out.2.1]; exact Nat.le_refl _), List.take_of_length_le (by rw [HTl.out]; exact Nat.le_refl _)] at this
          exact this
        have hbw : Below w.heap.size w wr := Hb1.out.trans (hR.out.2.2.2.mono Hb1.out.size)
        have hV := hR.out.1.vs k hR.out.2.1.symm (by unfold maxLen; omega) fun j hj => by
          rw [hR.out.2.1] at hj
          have hjo : j < ys.length := by rw [← Htn.out]; exact hj
          rw [hvs, HTk.out j hjo, Int.toNat_natCast]
          obtain ⟨_, _, _, _, _, _, _, _, hV⟩ := (HL.out.below hbw).at_ j hjo
          have := HB.out (by omega) j hjo
          obtain ⟨_, _, _, _, _, z⟩ := hV.at_ I (by omega)
          exact z
        have H := Lib.hid (And.intro hV hbw)
        have T2 := Lib.hid hvs
        clear hV hbw hvs hR
        go_wp2_with fail
        go_ret
        exact ⟨_, _, _, rfl, by rw [← T2.out]; exact H.out.1, H.out.2⟩
theorem hv_rep (w : World) (n : Nat) : Wd.Hv w (List.replicate n (.slice none 0 0)) (List.replicate n []) :=
  ⟨by simp, fun j hj => by
    rw [List.length_replicate] at hj
    exact ⟨none, 0, 0, by simp [List.getD, hj], by simpa [List.getD, hj] using Wd.Vs.none_ w⟩⟩
theorem made_sl (n : Nat) : (madeCells (Value.slice none 0 0).cells (n * 1)).toList = List.replicate n (Value.slice none 0 0) := by
  refine List.ext_getElem (by simp [madeCells]) fun i h1 h2 => ?_
  simp [madeCells, Value.cells, Nat.mod_one]
/-- A row of slices: one of its places is written. -/
theorem hv_store {w : World} {g : Nat} {t : TypeId} {vs : List Value} {ys : List (List Vl)} {A : Option Addr} {n c : Nat} {y : List Vl} {k : Nat} (hb : Wd.Bx w g t vs.toArray) (h : Wd.Hv w vs ys) (hv : Wd.Vs w A n c y) :
    Wd.Bx (w.setCell ⟨g, k, none⟩ (.slice A n c)) g t (vs.set k (.slice A n c)).toArray ∧ Wd.Hv (w.setCell ⟨g, k, none⟩ (.slice A n c)) (vs.set k (.slice A n c)) (ys.set k y) := by
  have hs : ∀ v ∈ vs, ∀ x, v ≠ .string x := fun v hv' x => by
    obtain ⟨j, hj, rfl⟩ := List.getElem_of_mem hv'
    obtain ⟨A', n', c', e, _⟩ := h.2 j (by rw [← h.1]; exact hj)
    rw [List.getD_eq_getElem?_getD, List.getElem?_eq_getElem hj, Option.getD_some] at e
    rw [e]
    simp
  have m := (Wd.Mv.refl (fun x => x = g) w).set (G := fun x => x = g) (a := ⟨g, k, none⟩) rfl (.slice A n c)
  refine ⟨by simpa using hb.set k (.slice A n c), Wd.Hv.set ⟨h.1, fun j hj => ?_⟩ k (hv.keep m fun a ha hn => hv.apart hb hs a ha hn)⟩
  obtain ⟨A', n', c', e, hV⟩ := h.2 j hj
  exact ⟨A', n', c', e, hV.keep m fun a ha hn => hV.apart hb hs a ha hn⟩
/-- Slices of values. -/
def OutL (w : World) (l : List (List Vl)) (e : Ending) (w' : World) : Prop :=
  ∃ A n c, e = .returned (.slice A n c) ∧ Wd.Ls w' A n c l ∧ Below w.heap.size w w'
theorem mixl {T V : List (List Vl)} {i : Nat} (hi : i < T.length) (hl : V.length = T.length) (h : V.take i = T.take i) : (V.set i (T.getD i [])).take (i + 1) = T.take (i + 1) := by
  rw [List.take_succ_eq_append_getElem (by simp; omega), List.take_succ_eq_append_getElem hi, List.take_set_of_le (Nat.le_refl _), h]
  simp [List.getD, List.getElem?_eq_getElem hi]
set_option maxHeartbeats 4000000 in
theorem produce_any (N : Nat) (v : Value) (T : List (List Vl)) (w : World) (hT : T.length = N) (hN : N ≤ 1000000)
    (C : ∀ W (j : Nat), Below w.heap.size w W → j < N → Calls Tryz.prog 48 #[v, .int .i64 (j : Int)] W (Cx.OutV W (T.getD j []))) :
    Calls Tryz.prog 46 #[.int .i64 (N : Int), .func (.func 48) #[v] #[]] w (OutL w T) := by
  obtain ⟨j0, hj, gz0, gz1, gz2⟩ := info_parts Wd.info_vs
  obtain ⟨zv, hzv⟩ : ∃ zv : Array Value, zv = (List.replicate N (Value.slice none 0 0)).toArray := ⟨_, rfl⟩
  have hmv : ∀ X : World, (Instr.makeSlice 33 (.int .i64 (N : Int)) (.int .i64 (N : Int))).run Tryz.prog X = .ok (.slice (some ⟨X.heap.size, 0, none⟩) N N) (X.alloc (.cells zv 45)) := fun X => by
    have := run_make (P := Tryz.prog) X 33 45 j0 _ Tryz.underlying33 hj gz0 .i64 .i64 (N : Int) (N : Int) (by omega) (by omega) (by rw [gz2]; omega) (by omega)
    rw [this, hzv, gz1, Int.toNat_natCast, ← made_sl]
  have rowv : Wd.Bx (w.alloc (.cells zv 45)) w.heap.size 45 (List.replicate N (Value.slice none 0 0)).toArray := by rw [hzv]; exact Wd.Bx.new w _ _
  have I0 := Lib.hid (And.intro rowv (And.intro (hv_rep (w.alloc (.cells zv 45)) N) ((Below.refl w.heap.size w).alloc (Nat.le_refl _) (.cells zv 45))))
  have HC := Lib.hid C
  have HT := Lib.hid hT
  clear C hT hzv rowv
  go_enter Tryz.func46, Tryz.ntmps46
  go_wp2_with fail
  clear hmv
  generalize w.alloc (.cells zv 45) = w2 at *
  go_loopw [11] (fun j wr => ∃ (k : Nat) (vs : List Value) (ys : List (List Vl)), j = .int .i64 k ∧ k ≤ N ∧ Hid (Wd.Bx wr w.heap.size 45 vs.toArray ∧ Wd.Hv wr vs ys ∧ ys.length = N ∧ ys.take k = T.take k ∧ Below w.heap.size w wr)) (fun j _ => N - (intOf j).toNat)
  case atStart => exact ⟨0, _, _, rfl, Nat.zero_le _, Lib.hid ⟨I0.out.1, I0.out.2.1, by simp, by simp, I0.out.2.2⟩⟩
  case round =>
    clear I0
    obtain ⟨k, vs, ys, rfl, hk, hR⟩ := hrel
    by_cases hlt : k < N
    · have hkI : (k : Int) < (N : Int) := by omega
      have Ck := Lib.hid (HC.out wr k hR.out.2.2.2.2 hlt)
      go_wp2_with fail
      refine Ck.out.mono ?_
      rintro e w5 ⟨A5, n5, c5, rfl, hV5, hB5⟩
      have hbx5 := hR.out.1.below hR.out.1.lt hB5
      have hv5 := hR.out.2.1.below hB5
      have hb5 := hR.out.2.2.2.2.trans (hB5.mono hR.out.2.2.2.2.size)
      have hkv : k < vs.length := by rw [hR.out.2.1.1, hR.out.2.2.1]; exact hlt
      have hc5 := hbx5.cell k
      rw [List.getElem?_toArray, List.getElem?_eq_getElem hkv] at hc5
      have hf5 := hbx5.free k
      obtain ⟨q1, q2⟩ := hv_store (k := k) hbx5 hv5 hV5
      have hmx := mixl (T := T) (V := ys) (i := k) (by rw [HT.out]; exact hlt) (by rw [HT.out, hR.out.2.2.1]) hR.out.2.2.2.1
      have R6 := Lib.hid (And.intro q1 (And.intro q2 (And.intro (show (ys.set k (T.getD k [])).length = N by simp [hR.out.2.2.1]) (And.intro hmx (hb5.setCell (p := ⟨w.heap.size, k, none⟩) (Nat.le_refl _) (.slice A5 n5 c5))))))
      generalize vs[k] = u at hc5
      clear q1 q2 hmx hbx5 hv5 hb5 hkv hR Ck hV5 hB5
      go_wp2_with fail
      go_roundw
      case rel => exact ⟨k + 1, _, _, by go_num, by omega, R6⟩
      case measure => simp [intOf]; omega
    · have hkI : ¬ (k : Int) < (N : Int) := by omega
      obtain rfl : k = N := by omega
      have hys : ys = T := by
        have := hR.out.2.2.2.1
        rw [List.take_of_length_le (by rw [hR.out.2.2.1]; exact Nat.le_refl _), List.take_of_length_le (by rw [HT.out]; exact Nat.le_refl _)] at this
        exact this
      have hL := Wd.Ls.of_bx hR.out.1 hR.out.2.1 k hR.out.2.2.1.symm (by unfold maxLen; omega)
      rw [hys] at hL
      have H := Lib.hid (And.intro hL hR.out.2.2.2.2)
      clear hL hys hR
      go_wp2_with fail
      go_ret
      exact ⟨_, _, _, rfl, H.out.1, H.out.2⟩
theorem rows_eq {on : Nat} {os : List Cr} {x : Seg} {h : Int} (he : x.cols = Wd.cols os) (hon : on = x.offs.length) (H : Hgt on os os.length h) {j : Nat} (hj : j < on) : trow (tabs os) h (j : Int) = row x (j : Int) := by
  have hh := H.2.2 (j : Int)
  by_cases q : (j : Int) < h
  · have h1 := hh.1 q
    have hx : Has x (j : Int) := (has_iff he).2 ⟨⟨by omega, by omega⟩, h1.2⟩
    rw [row_cells he hx, trow, if_pos q, tabs, List.map_map, cells]
    rfl
  · have hx : ¬ Has x (j : Int) := fun z => q (hh.2 ⟨by omega, ((has_iff he).1 z).2⟩)
    rw [row_no hx, trow, if_neg q]
set_option maxHeartbeats 4000000 in
theorem rows_any (OA : Option Addr) (on oc : Nat) (CA : Option Addr) (cn cc : Nat) (os : List Cr) (x : Seg) (w : World) (hX : Sg w OA on oc CA cn cc os x) (hlt : Lt os) (hcn : cn ≤ 1000000) (hon : on ≤ 1000000) :
    Calls Tryz.prog 24 #[.agg #[.int .i64 x.part, .int .i64 x.id, .int .i64 x.st, .int .i64 x.en, .slice OA on oc, .slice CA cn cc]] w (OutL w (rows x)) := by
  have x1 : Gb (w.alloc (.cells #[.int .i64 x.part, .int .i64 x.id, .int .i64 x.st, .int .i64 x.en, .slice OA on oc, .slice CA cn cc] 28)) w.heap.size x.part x.id x.st x.en OA on oc CA cn cc := Gb.new _ _ _ _ _ _ _ _ _ _ _
  have hb1 : Below w.heap.size w (w.alloc (.cells #[.int .i64 x.part, .int .i64 x.id, .int .i64 x.st, .int .i64 x.en, .slice OA on oc, .slice CA cn cc] 28)) := (Below.refl _ _).alloc (Nat.le_refl _) _
  have hz1 : w.heap.size + 1 ≤ (w.alloc (.cells #[.int .i64 x.part, .int .i64 x.id, .int .i64 x.st, .int .i64 x.en, .slice OA on oc, .slice CA cn cc] 28)).heap.size := by simp
  have HX := Lib.hid hX
  obtain ⟨w1, hw1⟩ : ∃ w1, w1 = w.alloc (.cells #[.int .i64 x.part, .int .i64 x.id, .int .i64 x.st, .int .i64 x.en, .slice OA on oc, .slice CA cn cc] 28) := ⟨_, rfl⟩
  rw [← hw1] at x1 hb1 hz1
  have Cr := Lib.hid (fun W (hb : Below w.heap.size w W) => read_any OA on oc CA cn cc os x W (hX.below hb) hlt hcn)
  have Hon := Lib.hid hX.offs.len
  have Hcn := Lib.hid hX.cols.len
  have hbl := hb1
  have hrl : (rows x).length = on := by rw [rows_len]; exact hX.offs.len.symm
  have Cp := Lib.hid (fun (V : Option Addr) (tc : Nat) (h : Int) (W : World) (hL : Wd.Ls W V cn tc (tabs os)) (hh : Hgt on os os.length h) => produce_any on (.agg #[.slice V cn tc, .int .i64 h]) (rows x) W hrl hon fun W' j hb hj => by
    have := trow_any V cn tc (tabs os) h (j : Int) W' (hL.below hb) (by omega) (by omega) (fun q i hi => by
      rw [tabs_len] at hi
      rw [tabs_get hi]
      exact ((hh.2.2 (j : Int)).1 q).2 i hi) hcn
    rw [rows_eq hX.eq hX.offs.len hh hj, ← rows_get (by rw [← hX.offs.len]; exact hj)] at this
    exact this)
  have z10 := Gb.six (w := w1.drew) (Wd.Bx.drew x1)
  have Hw1 := Lib.hid hw1
  have HB1 := Lib.hid hb1
  have X1 := Lib.hid x1
  clear x1 hw1 hX hrl
  go_enter Tryz.func24, Tryz.ntmps24
  go_upto_region 1 with fail
  rw [← Hw1.out]
  go_region_held3 (fun w' => w'.cell? ⟨w.heap.size, 0, none⟩ = some (.int .i64 x.part) ∧ w'.cell? ⟨w.heap.size, 1, none⟩ = some (.int .i64 x.id) ∧ w'.cell? ⟨w.heap.size, 2, none⟩ = some (.int .i64 x.st) ∧ w'.cell? ⟨w.heap.size, 3, none⟩ = some (.int .i64 x.en) ∧ w'.cell? ⟨w.heap.size, 4, none⟩ = some (.slice OA on oc) ∧ w'.cell? ⟨w.heap.size, 5, none⟩ = some (.slice CA cn cc)) (with_reducible first | exact z10) (first
    | (go_at_call 47; (with_reducible refine (Cr.out _ hb1.drew).mono ?_); rintro e w2 ⟨V, tc, h, rfl, hL2, hh2, hB2⟩; have hb2 : Below w1.heap.size w1 w2 := Wd.of_drew hB2; have z10 := Gb.six (X1.out.below X1.out.lt hb2))
    | (go_at_call 46; (with_reducible refine (Cp.out V tc h _ hL2 hh2).mono ?_); rintro e w3 ⟨A3, n3, c3, rfl, hL3, hB3⟩; have z10 := Gb.six (X1.out.below X1.out.lt (hb2.trans (hB3.mono hb2.size)))))
  all_goals (
    have H3 := Lib.hid (And.intro hL3 (HB1.out.trans ((hb2.trans (hB3.mono hb2.size)).mono HB1.out.size)))
    clear hL3 hB3 hb2 hL2 hh2 hB2
    go_wp2_with fail
    go_ret
    exact ⟨_, _, _, rfl, H3.out.1, H3.out.2⟩)
end Se
end Go.Proofs.YtoibpbnebcoafaaGreat
namespace Go.Proofs.YtoibpbnebcoafaaGreat
set_option maxRecDepth 20000
open Go.RowKit
namespace Se
open Sc (Sch tr tr_yes tr_no tr_iff tr_congr)
open Wd (Cr)
/-- The offsets are distinct and in their range. -/
def OffOk (x : Seg) : Prop := x.offs.Nodup ∧ ∀ o ∈ x.offs, x.st ≤ o ∧ o < x.en
theorem off_iff (x : Seg) : Rise x.st x.en (x.offs.mergeSort fun a b => decide (a ≤ b)) ↔ OffOk x := by
  have hp := List.mergeSort_perm x.offs (fun a b => decide (a ≤ b))
  have hs : (x.offs.mergeSort fun a b => decide (a ≤ b)).Pairwise (fun a b => decide (a ≤ b) = true) :=
    List.pairwise_mergeSort (fun a b c h k => by simp at *; omega) (fun a b => by simp; omega) x.offs
  rw [rise_iff, OffOk, ← hp.nodup_iff]
  constructor
  · rintro ⟨h1, h2⟩
    exact ⟨h1.imp fun {a b} h => by omega, fun o ho => h2 o (hp.mem_iff.2 ho)⟩
  · rintro ⟨h1, h2⟩
    refine ⟨?_, fun o ho => h2 o (hp.mem_iff.1 ho)⟩
    exact (hs.and h1).imp fun {a b} h => by
      have := h.2
      have := of_decide_eq_true h.1
      omega
theorem values_any (A : Option Addr) (m c : Nat) (w : World) :
    Calls Tryz.prog 76 #[.slice A m c] w fun e w' => ∃ B, e = .returned (.func (.func 105) #[] #[.pointer (some ⟨B, 0, none⟩)]) ∧ B < w'.heap.size ∧ w'.cell? ⟨B, 0, none⟩ = some (.slice A m c) ∧ Below w.heap.size w w' := by
  refine ((callsIn_wide (n := 6)).1 (values_in 6 A m c w)).mono ?_
  rintro e w' ⟨rfl, rfl⟩
  exact ⟨_, rfl, by simp, (Boxed.new w 25 (.slice A m c)).cell, (Below.refl _ _).alloc (Nat.le_refl _) _⟩
set_option maxHeartbeats 4000000 in
theorem mayOffsets_any (OA : Option Addr) (on oc : Nat) (CA : Option Addr) (cn cc : Nat) (os : List Cr) (x : Seg) (w : World) (hX : Sg w OA on oc CA cn cc os x) (hon : on ≤ 1000000) (hst : 0 ≤ x.st) (hst2 : x.st ≤ 1099511627776) (hen : x.en ≤ 1099511627776) :
    Calls Tryz.prog 51 #[.agg #[.int .i64 x.part, .int .i64 x.id, .int .i64 x.st, .int .i64 x.en, .slice OA on oc, .slice CA cn cc]] w fun e w' => e = .returned (.bool (tr (OffOk x))) ∧ Below w.heap.size w w' := by
  have x1 : Gb (w.alloc (.cells #[.int .i64 x.part, .int .i64 x.id, .int .i64 x.st, .int .i64 x.en, .slice OA on oc, .slice CA cn cc] 28)) w.heap.size x.part x.id x.st x.en OA on oc CA cn cc := Gb.new _ _ _ _ _ _ _ _ _ _ _
  have hb1 : Below w.heap.size w (w.alloc (.cells #[.int .i64 x.part, .int .i64 x.id, .int .i64 x.st, .int .i64 x.en, .slice OA on oc, .slice CA cn cc] 28)) := (Below.refl _ _).alloc (Nat.le_refl _) _
  obtain ⟨w1, hw1⟩ : ∃ w1, w1 = w.alloc (.cells #[.int .i64 x.part, .int .i64 x.id, .int .i64 x.st, .int .i64 x.en, .slice OA on oc, .slice CA cn cc] 28) := ⟨_, rfl⟩
  rw [← hw1] at x1 hb1
  have HO := Lib.hid (fun W (hb : Below w.heap.size w W) => hX.offs.below hb)
  have Cv := Lib.hid (fun W => values_any OA on oc W)
  have hS := hX.offs
  have Cs := Lib.hid (fun B W (hB : B < W.heap.size) (hw : Below w.heap.size w W) (hc : W.cell? ⟨B, 0, none⟩ = some (.slice OA on oc)) => (callsIn_wide (n := 6)).1 (sorted_in hS hon 6 (by omega) B W hB hw hc))
  have Cr := Lib.hid (fun (R : Option Addr) (m d : Nat) (W : World) (hl : Wd.Sl W .i64 R m d (x.offs.mergeSort fun a b => decide (a ≤ b))) => rise_any OA on oc CA cn cc x.part x.id x.st x.en R m d _ W hl hst hst2 hen)
  rw [tr_congr (off_iff x)] at Cr
  obtain ⟨r, hr⟩ : ∃ r, r = tr (OffOk x) := ⟨_, rfl⟩
  rw [← hr] at Cr ⊢
  have z10 := Gb.six (w := w1.drew) (Wd.Bx.drew x1)
  have hdd : Below w1.heap.size w1 w1.drew := (Below.refl _ _).drew
  have Hw1 := Lib.hid hw1
  have HB1 := Lib.hid hb1
  have X1 := Lib.hid x1
  clear x1 hw1 hX hS hr hb1
  go_enter Tryz.func51, Tryz.ntmps51
  go_upto_region 1 with fail
  rw [← Hw1.out]
  go_region_held3 (fun w' => w'.cell? ⟨w.heap.size, 0, none⟩ = some (.int .i64 x.part) ∧ w'.cell? ⟨w.heap.size, 1, none⟩ = some (.int .i64 x.id) ∧ w'.cell? ⟨w.heap.size, 2, none⟩ = some (.int .i64 x.st) ∧ w'.cell? ⟨w.heap.size, 3, none⟩ = some (.int .i64 x.en) ∧ w'.cell? ⟨w.heap.size, 4, none⟩ = some (.slice OA on oc) ∧ w'.cell? ⟨w.heap.size, 5, none⟩ = some (.slice CA cn cc)) (with_reducible first | exact z10) (first
    | (go_at_call 76; (with_reducible refine (Cv.out _).mono ?_); rintro e w2 ⟨B, rfl, hBl, hBc, hB2⟩; have hb2 : Below w1.heap.size w1 w2 := hdd.trans hB2; have z10 := Gb.six (X1.out.below X1.out.lt hb2))
    | (go_at_call 75; (with_reducible refine (Cs.out _ _ hBl (HB1.out.trans (hb2.mono HB1.out.size)) hBc).mono ?_); rintro e w3 ⟨R, m, d, rfl, hL3, hB3⟩; have hb3 : Below w1.heap.size w1 w3 := hb2.trans (hB3.mono hb2.size); have z10 := Gb.six (X1.out.below X1.out.lt hb3))
    | (go_at_call 34; (with_reducible refine (Cr.out R m d _ hL3).mono ?_); rintro e w4 ⟨rfl, hB4⟩; have hb4 : Below w1.heap.size w1 w4 := hb3.trans (hB4.mono hb3.size); have z10 := Gb.six (X1.out.below X1.out.lt hb4)))
  all_goals (
    have H3 := Lib.hid (HB1.out.trans (hb4.mono HB1.out.size))
    clear hb4 hB4 hb3 hB3 hb2 hB2 hL3 hBl hBc
    go_wp2_with fail
    go_ret
    exact ⟨rfl, H3.out⟩)
end Se
end Go.Proofs.YtoibpbnebcoafaaGreat
namespace Go.Proofs.YtoibpbnebcoafaaGreat
set_option maxRecDepth 20000
open Go.RowKit
namespace Se
open Va (Vl May null)
open Sc (Sch tr tr_yes tr_no tr_iff tr_congr)
open Sx (Sb five)
open Wd (Cr)
/-- The columns may be, and are of the offsets' length. -/
def ColsOk (s : Sch) (x : Seg) : Prop := x.cols.length = s.cols.length ∧ x.offs.length ≤ 4096 ∧ ∀ c ∈ x.cols, c.n = (x.offs.length : Int) ∧ Co.Valid c
set_option maxHeartbeats 4000000 in
theorem mayCols_any (A : Option Addr) (n c : Nat) (s : Sch) (OA : Option Addr) (on oc : Nat) (CA : Option Addr) (cn cc : Nat) (os : List Cr) (x : Seg) (w : World) (hS : Wd.Cs w A n c s.cols) (hX : Sg w OA on oc CA cn cc os x) (hlt : Lt os) (hcn : cn ≤ 1000000) :
    Calls Tryz.prog 50 #[.agg #[.slice A n c, .int .i64 s.key, .int .i64 s.cmp, .int .i64 s.del, .int .i64 s.sort], .agg #[.int .i64 x.part, .int .i64 x.id, .int .i64 x.st, .int .i64 x.en, .slice OA on oc, .slice CA cn cc]] w fun e w' => e = .returned (.bool (tr (ColsOk s x))) ∧ Below w.heap.size w w' := by
  obtain ⟨w1, hw1⟩ : ∃ w1, w1 = (w.alloc (.cells #[.slice A n c, .int .i64 s.key, .int .i64 s.cmp, .int .i64 s.del, .int .i64 s.sort] 24)).alloc (.cells #[.int .i64 x.part, .int .i64 x.id, .int .i64 x.st, .int .i64 x.en, .slice OA on oc, .slice CA cn cc] 28) := ⟨_, rfl⟩
  have z1 : (w.alloc (.cells #[.slice A n c, .int .i64 s.key, .int .i64 s.cmp, .int .i64 s.del, .int .i64 s.sort] 24)).heap.size = w.heap.size + 1 := by simp
  have s1 : Sb w1 w.heap.size A n c s.key s.cmp s.del s.sort := by rw [hw1]; exact (Wd.Bx.new w _ _).alloc _
  have x1 : Gb w1 (w.heap.size + 1) x.part x.id x.st x.en OA on oc CA cn cc := by
    have := Gb.new (w.alloc (.cells #[.slice A n c, .int .i64 s.key, .int .i64 s.cmp, .int .i64 s.del, .int .i64 s.sort] 24)) x.part x.id x.st x.en OA on oc CA cn cc
    rw [z1] at this
    rw [hw1]
    exact this
  have hb1 : Below w.heap.size w w1 := by rw [hw1]; exact ((Below.refl _ _).alloc (Nat.le_refl _) _).alloc (by simp) _
  obtain ⟨c0, c1, c2, c3, c4⟩ := five s1
  obtain ⟨d0, d1, d2, d3, d4, d5⟩ := x1.six
  have Hn := Lib.hid hS.len
  have Hcn := Lib.hid hX.cols.len
  have Hon := Lib.hid hX.offs.len
  have hoc := hX.offs.cap
  have hox := hX.offs.max
  unfold maxLen at hox
  have HX := Lib.hid hX
  have X1 := Lib.hid x1
  have Hb1 := Lib.hid hb1
  have Hw1 := Lib.hid hw1
  have hzl := x1.lt
  obtain ⟨r, hr⟩ : ∃ r, r = tr (ColsOk s x) := ⟨_, rfl⟩
  rw [← hr]
  have Hr := Lib.hid hr
  have Hno := Lib.hid (fun (h : ¬ ColsOk s x) => (by rw [hr]; exact tr_no h : r = false))
  clear hw1 z1 s1 x1 hb1 hX hS hr
  go_enter Tryz.func50, Tryz.ntmps50
  go_upto_region 1 with fail
  rw [← Hw1.out]
  by_cases h1 : cn = n
  case neg =>
    have t1 : ((cn : Int) != (n : Int)) = true := by simp; omega
    have t2 := Lib.hid (Hno.out fun z => h1 (by have := z.1; rw [HX.out.eq, Wd.cols_len] at this; have := Hn.out; have := Hcn.out; omega))
    clear h1
    go_wp2_with fail
    go_ret
    exact ⟨by rw [t2.out]; rfl, Hb1.out⟩
  have t1 : ((cn : Int) != (n : Int)) = false := by simp; omega
  by_cases h2 : 4096 < on
  · have t3 : (4096 : Int) < (on : Int) := by omega
    have t3' : decide ((4096 : Int) < (on : Int)) = true := decide_eq_true t3
    have t2 := Lib.hid (Hno.out fun z => by have := z.2.1; have := Hon.out; omega)
    have H1 := Lib.hid h1
    clear h1
    go_wp2_with fail
    go_ret
    exact ⟨by rw [t2.out]; rfl, Hb1.out⟩
  have t3 : ¬ (4096 : Int) < (on : Int) := by omega
  have t3' : decide ((4096 : Int) < (on : Int)) = false := decide_eq_false t3
  have H1 := Lib.hid h1
  clear h1
  go_wp2_with fail
  go_loopw [23] (fun i wr => ∃ k : Nat, i = .int .i64 k ∧ k ≤ cn ∧ Hid ((∀ j, j < k → (os.getD j default).C.n = (on : Int) ∧ Co.Valid (os.getD j default).C) ∧ Below w1.heap.size w1 wr)) (fun i _ => cn - (intOf i).toNat)
  case atStart => exact ⟨0, rfl, Nat.zero_le _, Lib.hid ⟨fun j hj => by omega, Below.refl _ _⟩⟩
  case round =>
    clear c0 c1 c2 c3 c4 d0 d1 d2 d3 d4 d5
    obtain ⟨k, rfl, hk, hI⟩ := hrel
    by_cases hltk : k < cn
    · have hkI : (k : Int) < (cn : Int) := by omega
      have hbw : Below w.heap.size w wr := Hb1.out.trans (hI.out.2.mono Hb1.out.size)
      have hko : k < os.length := by rw [← Hcn.out]; exact hltk
      obtain ⟨b, f, hA, _, c0, c1, c2, h1⟩ := (HX.out.cols.below hbw).cells hko rfl
      subst hA
      have hsz := hlt k hko
      obtain ⟨o, ho⟩ : ∃ o, o = os.getD k default := ⟨_, rfl⟩
      rw [← ho] at c0 c1 c2 h1 hsz
      have hbad := fun (h : ¬ (o.C.n = (on : Int) ∧ Co.Valid o.C)) => Hno.out fun z => h (by
        have := z.2.2 o.C (by
          rw [HX.out.eq, ho]
          unfold Wd.cols
          refine List.mem_map.2 ⟨os.getD k default, ?_, rfl⟩
          rw [List.getD_eq_getElem?_getD, List.getElem?_eq_getElem hko]
          exact List.getElem_mem hko)
        rw [← Hon.out] at this
        exact this)
      have hal := (Below.refl wr.heap.size wr).alloc (Nat.le_refl _) (.cells #[.int .i64 o.C.n, .slice o.A o.n o.c, .slice o.B o.m o.d] 70)
      have bx := Cx.Cb.new wr o.C.n o.A o.n o.c o.B o.m o.d
      have Cm := Lib.hid (Cx.cmay_any o.A o.n o.c o.B o.m o.d o.C _ (h1.below hal) hsz.1 hsz.2)
      have xb := Gb.six ((X1.out.below X1.out.lt hI.out.2).alloc (.cells #[.int .i64 o.C.n, .slice o.A o.n o.c, .slice o.B o.m o.d] 70))
      have x4 := xb.2.2.2.2.1
      obtain ⟨b0, b1, b2⟩ := And.intro bx.c0 (And.intro bx.c1 bx.c2)
      have Hal := Lib.hid (hI.out.2.trans (hal.mono hI.out.2.size))
      have hnn := h1.n0
      have hnn2 := h1.n1
      have Ho := Lib.hid ho
      have Hbad := Lib.hid hbad
      have Hbw := Lib.hid hbw
      clear hal bx h1 hsz ho hko hbad xb hbw
      by_cases q1 : o.C.n = (on : Int)
      case neg =>
        have t5 : (o.C.n != (on : Int)) = true := by simpa using q1
        have t6 := Lib.hid (Hbad.out fun z => q1 z.1)
        clear q1 hI
        go_wp2_with fail
        go_ret
        exact ⟨by rw [t6.out]; rfl, Hb1.out.trans (Hal.out.mono Hb1.out.size)⟩
      have t5 : (o.C.n != (on : Int)) = false := by simpa using q1
      have Q1 := Lib.hid q1
      clear q1
      by_cases q2 : Co.Valid o.C
      case neg =>
        have t6 := Lib.hid (Hbad.out fun z => q2 z.2)
        have t7 := Lib.hid (tr_no q2)
        clear q2 hI
        go_wp2_with fail
        refine Cm.out.mono ?_
        rintro e w3 ⟨rfl, hB3⟩
        rw [t7.out]
        have H3 := Lib.hid (Hal.out.trans (hB3.mono Hal.out.size))
        clear hB3 Cm
        go_wp2_with fail
        go_ret
        exact ⟨by rw [t6.out]; rfl, Hb1.out.trans (H3.out.mono Hb1.out.size)⟩
      have t7 := Lib.hid (tr_yes q2)
      have Q2 := Lib.hid q2
      clear q2
      go_wp2_with fail
      refine Cm.out.mono ?_
      rintro e w3 ⟨rfl, hB3⟩
      rw [t7.out]
      have I3 := Lib.hid (show (∀ j, j < k + 1 → (os.getD j default).C.n = (on : Int) ∧ Co.Valid (os.getD j default).C) ∧ Below w1.heap.size w1 w3 from ⟨fun j hj => by
        by_cases z : j = k
        · rw [z, ← Ho.out]; exact ⟨Q1.out, Q2.out⟩
        · exact hI.out.1 j (by omega), Hal.out.trans (hB3.mono Hal.out.size)⟩)
      clear hB3 Cm hI
      go_wp2_with fail
      go_roundw
      case rel => exact ⟨k + 1, by go_num, by omega, I3⟩
      case measure => simp [intOf]; omega
    · have hkI : ¬ (k : Int) < (cn : Int) := by omega
      have t6 := Lib.hid (show r = true by
        rw [Hr.out]
        refine tr_yes ⟨by rw [HX.out.eq, Wd.cols_len]; have := Hn.out; have := Hcn.out; have := H1.out; omega, by have := Hon.out; omega, fun c hc => ?_⟩
        rw [HX.out.eq] at hc
        obtain ⟨o, ho, rfl⟩ := List.mem_map.1 hc
        obtain ⟨j, hj, rfl⟩ := List.getElem_of_mem ho
        have := hI.out.1 j (by have := Hcn.out; omega)
        rw [← Hon.out]
        simpa [List.getD, List.getElem?_eq_getElem hj] using this)
      have H3 := Lib.hid (Hb1.out.trans (hI.out.2.mono Hb1.out.size))
      clear hI
      go_wp2_with fail
      go_ret
      exact ⟨by rw [t6.out]; rfl, H3.out⟩
end Se
end Go.Proofs.YtoibpbnebcoafaaGreat
