/- What the reference of layer 10 does: Values, Range. The reference of layer 12: Row, Rows. The reference of layer 12: Rows. -/
import Derived.Deep.RegionLaw
import Derived.Test.YtoibpbnebcoafaaGreatPk46
import Derived.Test.YtoibpbnebcoafaaGreatPk09
import Derived.Test.YtoibpbnebcoafaaGreatPk39
import Derived.Test.YtoibpbnebcoafaaGreatPk40
namespace Go.Proofs.YtoibpbnebcoafaaGreat
set_option maxRecDepth 20000
open Go.RowKit
namespace Cx
open Va (Vl May ord null)
open Sc (tr tr_yes tr_no tr_iff)
open Co
theorem take_map {α β : Type} (f : α → β) (l : List α) (k : Nat) (h : k < l.length) (d : α) : (l.take (k + 1)).map f = (l.take k).map f ++ [f (l.getD k d)] := by
  rw [List.take_succ_eq_append_getElem h, List.map_append]
  simp [List.getD, h]
theorem V1_of {w : World} {A : Option Addr} {n c : Nat} {vs : List Vl} (h : Wd.Vs w A n c vs) {j : Nat} (hj : j < vs.length) : Wd.V1 (vs.getD j default) := by
  obtain ⟨_, _, _, _, _, h1⟩ := h.at_ j hj
  exact h1
set_option maxHeartbeats 8000000 in
theorem refValues_any (A : Option Addr) (n c : Nat) (B : Option Addr) (m d : Nat) (C : Col) (w : World) (h : Cl w A n c B m d C) (hn : n ≤ 100000) (hm : m ≤ 1000000) :
    Calls Tryz.prog 45 #[.agg #[.int .i64 C.n, .slice A n c, .slice B m d]] w (OutV w (values C)) := by
  have hb0 := (Below.refl w.heap.size w).alloc (Nat.le_refl _) (.cells #[.int .i64 C.n, .slice A n c, .slice B m d] 70)
  have x0 := Cb.new w C.n A n c B m d
  have C1 := Lib.hid (refIds_any A n c B m d C _ (h.below hb0) hn hm)
  have hcap := h.dict.cap
  have hmx := h.dict.max
  unfold maxLen at hmx
  have HD := Lib.hid h.dict
  have Hn := Lib.hid h.dict.len
  have Hb0 := Lib.hid hb0
  obtain ⟨L, hL⟩ : ∃ L, L = nums C := ⟨_, rfl⟩
  have Hin := Lib.hid (show ∀ x ∈ L, 0 ≤ x ∧ x < (n : Int) from fun x hx => by
    rw [hL] at hx
    have := nums_in hx
    rw [h.dict.len]
    exact this.2)
  have Hll := Lib.hid (show L.length ≤ 4096 by
    by_cases hv : Valid C
    · have h1 := nums_len hv
      have h2 := hv.n1
      rw [hL]
      omega
    · rw [hL, nums_no hv]
      simp)
  obtain ⟨T, hT⟩ : ∃ T : Nat → List Vl, T = fun k => (L.take k).map fun x => C.dict.getD x.toNat default := ⟨_, rfl⟩
  have HT0 := Lib.hid (show T 0 = [] by rw [hT]; rfl)
  have HT1 := Lib.hid (show ∀ k, k < L.length → T (k + 1) = T k ++ [C.dict.getD (L.getD k 0).toNat default] from fun k hk => by rw [hT]; exact take_map _ _ _ hk _)
  have HTn := Lib.hid (show T L.length = values C by rw [hT, hL]; show ((nums C).take (nums C).length).map _ = _; rw [List.take_length]; rfl)
  have HTl := Lib.hid (show ∀ k, (T k).length ≤ k from fun k => by rw [hT]; simp; omega)
  rw [← hL] at C1
  rw [← HTn.out]
  have h4 := Hll.out
  obtain ⟨N, hN⟩ : ∃ N, N = C.n := ⟨_, rfl⟩
  rw [← hN] at x0 C1 Hb0 ⊢
  have bx := x0.bx
  clear h hb0 hL hT hN
  have c0 := x0.c0
  have c1 := x0.c1
  have c2 := x0.c2
  go_enter Tryz.func45, Tryz.ntmps45
  go_wp2_with fail
  refine C1.out.mono ?_
  rintro e w1 ⟨P, p, q, rfl, hSl, hB1⟩
  have y0 := x0.below (by simp) hB1
  have hb1 := Hb0.out.trans (hB1.mono (by simp))
  have hlt1 := y0.lt
  have hpl := hSl.len
  have hpc := hSl.cap
  have hpm := hSl.max
  unfold maxLen at hpm
  have hp1 : p ≤ 4096 := by omega
  have Hpl := Lib.hid hpl
  have HSl := Lib.hid hSl
  have HD1 := Lib.hid (HD.out.below hb1)
  have Hb1 := Lib.hid hb1
  clear c0 c1 c2 x0 bx hB1 C1 hpl hSl hb1 h4 HD
  go_wp2_with fail
  go_loopw [5, 6] (fun v j wr => ∃ k : Nat, j = .int .i64 k ∧ k ≤ p ∧ wr.ownsRow w1.heap.size 56 4 v (T k).length (Wd.flatV (T k)) ∧ Hid (∀ j, j < (T k).length → Wd.V1 ((T k).getD j default)) ∧ Below w1.heap.size w1 wr) (fun _ j _ => p - (intOf j).toNat)
  case atStart => exact ⟨0, rfl, Nat.zero_le _, by rw [HT0.out]; exact World.ownsRow_nil _ _ _ _, Lib.hid (fun j hj => by rw [HT0.out] at hj; cases hj), Below.refl _ _⟩
  case round =>
    obtain ⟨k, rfl, hk, hO, h1, hB⟩ := hrel
    by_cases hkp : k < p
    · have hkI : (k : Int) < p := by omega
      have hk0 : (0 : Int) ≤ (k : Int) := by omega
      have hkL : k < L.length := by rw [← Hpl.out]; exact hkp
      obtain ⟨b, o, hP, hbl, hc⟩ := (HSl.out.below hB).rd k hkL
      subst hP
      obtain ⟨x, hx⟩ : ∃ x, x = L.getD k 0 := ⟨_, rfl⟩
      have hxm : x ∈ L := by
        rw [hx, List.getD_eq_getElem?_getD, List.getElem?_eq_getElem hkL]
        exact List.getElem_mem hkL
      obtain ⟨hx0, hxn⟩ := Hin.out x hxm
      have hT := HT1.out k hkL
      rw [← hx] at hc hT
      obtain ⟨z, hz⟩ : ∃ z : Nat, x = (z : Int) := ⟨x.toNat, by omega⟩
      subst hz
      rw [Int.toNat_natCast] at hT
      have hzn : z < C.dict.length := by rw [← Hn.out]; omega
      have HDr := HD1.out.below hB
      obtain ⟨e, f, hA, heB, d0, d1, d2, d3, hv1⟩ := HDr.cells (j := z) hzn rfl
      subst hA
      have Hv1 := Lib.hid hv1
      obtain ⟨y, hy⟩ : ∃ y, y = C.dict.getD z default := ⟨_, rfl⟩
      rw [← hy] at d0 d1 d2 d3 hT Hv1
      obtain ⟨vk, vi, vs, vb⟩ := y
      have HT := Lib.hid hT
      have hc1 := (y0.below hlt1 hB).c1
      have hO4 := hO
      have hdk : (T k).length ≤ 1000000 := by have := HTl.out k; omega
      have hz4 := hB.size
      have HB := Lib.hid hB
      have H1 := Lib.hid h1
      clear hx hxm hT hzn hy HDr hv1 hO h1
      go_wp2_with fail
      have hA5 : Below w1.heap.size w1 (wr.drew.alloc (.cells #[.int .i64 vk, .int .i64 vi, .string vs, .bool vb] 56)) := (hB.drew).alloc hz4 _
      have hO5 : (wr.drew.alloc (.cells #[.int .i64 vk, .int .i64 vi, .string vs, .bool vb] 56)).ownsRow w1.heap.size 56 4 u5 (T k).length (Wd.flatV (T k)) := hO4.drew.alloc _
      have hz5 := hA5.size
      have hcv := Wd.vals_new wr.drew ⟨vk, vi, vs, vb⟩ _ rfl
      go_region_law (refine Wd.step_appV _ rfl (.tmp 18) (.tmp 27) rfl w1.heap.size u5 (T k) rfl hO5 _ ⟨vk, vi, vs, vb⟩ rfl hcv hdk hz5 ?_; intro v6 w6 hO6 hg6; have hb6 : Below w1.heap.size w1 w6 := hA5.grown hg6 hz5 fun g hg => (hO5.lt g hg).1)
      all_goals (
        go_wp2_with fail
        go_roundw
        case rel =>
          refine ⟨k + 1, by go_num, by omega, by rw [HT.out]; exact hO6, Lib.hid ?_, hb6⟩
          rw [HT.out]
          exact Sx.v1_app H1.out Hv1.out
        case measure => simp [intOf]; omega)
    · have hkI : ¬ (k : Int) < p := by omega
      obtain rfl : k = p := by omega
      obtain ⟨A6, n6, c6, rfl, hS6⟩ := Wd.Vs.of_own hO h1.out
      have HB := Lib.hid (Hb1.out.trans (hB.mono Hb1.out.size))
      have HS6 := Lib.hid hS6
      have e := Hpl.out
      clear hO h1 hB hS6
      go_wp2_with fail
      go_ret
      exact ⟨_, _, _, rfl, by rw [← e]; exact HS6.out, HB.out⟩
end Cx
end Go.Proofs.YtoibpbnebcoafaaGreat
namespace Go.Proofs.YtoibpbnebcoafaaGreat
set_option maxRecDepth 20000
open Go.RowKit Go.Maps
namespace Se
open Va (Vl)
open Sc (Sch MayS FitS tr tr_yes tr_no tr_iff tr_congr)
open Sx (Sb five)
open Wd (Cr)
open Co (values)
/-- A row of its own comes back. -/
def OutRw (w : World) (y : List Vl) (e : Ending) (w' : World) : Prop :=
  ∃ v, e = .returned v ∧ w'.ownsRow w.heap.size 56 4 v y.length (Wd.flatV y) ∧ (∀ j, j < y.length → Wd.V1 (y.getD j default)) ∧ Below w.heap.size w w'
theorem OutRw.nil {w w' : World} (h : Below w.heap.size w w') : OutRw w [] (.returned (.slice none 0 0)) w' := ⟨_, rfl, World.ownsRow_nil _ _ _ _, (fun _ h => by cases h), h⟩
/-- Row I of the first k columns. -/
noncomputable def part (os : List Cr) (I k : Nat) : List Vl := ((Wd.cols os).take k).map fun c => (values c).getD I default
theorem part_len {os : List Cr} {I k : Nat} (h : k ≤ os.length) : (part os I k).length = k := by
  unfold part
  rw [List.length_map, List.length_take, Wd.cols_len]
  omega
theorem part_next {os : List Cr} {I k : Nat} (h : k < os.length) : part os I (k + 1) = part os I k ++ [(values (os.getD k default).C).getD I default] := by
  unfold part
  rw [List.take_succ_eq_append_getElem (by rw [Wd.cols_len]; exact h), List.map_append]
  congr 1
  have := cols_get h
  rw [List.getD_eq_getElem?_getD, List.getElem?_eq_getElem (by rw [Wd.cols_len]; exact h)] at this
  rw [← this]
  rfl
theorem v1_vs {w : World} {A : Option Addr} {n c : Nat} {vs : List Vl} (h : Wd.Vs w A n c vs) {j : Nat} (hj : j < vs.length) : Wd.V1 (vs.getD j default) := by
  obtain ⟨_, _, _, _, _, h1⟩ := h.at_ j hj
  exact h1
set_option maxHeartbeats 8000000 in
theorem refRow_any (OA : Option Addr) (on oc : Nat) (CA : Option Addr) (cn cc : Nat) (os : List Cr) (x : Seg) (i : Int) (w : World) (hX : Sg w OA on oc CA cn cc os x) (hlt : Lt os) (hcn : cn ≤ 1000000) :
    Calls Tryz.prog 22 #[.agg #[.int .i64 x.part, .int .i64 x.id, .int .i64 x.st, .int .i64 x.en, .slice OA on oc, .slice CA cn cc], .int .i64 i] w (OutRw w (row x i)) := by
  have hb0 := (Below.refl w.heap.size w).alloc (Nat.le_refl _) (.cells #[.int .i64 x.part, .int .i64 x.id, .int .i64 x.st, .int .i64 x.en, .slice OA on oc, .slice CA cn cc] 28)
  have x0 := Gb.new w x.part x.id x.st x.en OA on oc CA cn cc
  obtain ⟨-, -, -, -, d4, d5⟩ := Gb.six x0
  have HX := Lib.hid hX
  have X0 := Lib.hid x0
  have Hb0 := Lib.hid hb0
  have Hcn := Lib.hid hX.cols.len
  have Hon := Lib.hid hX.offs.len
  obtain ⟨y, hy⟩ : ∃ y, y = row x i := ⟨_, rfl⟩
  rw [← hy]
  have Hno := Lib.hid (fun (h : ¬ Has x i) => (by rw [hy]; exact row_no h : y = []))
  have Hyes := Lib.hid (fun (h : Has x i) => (by rw [hy]; exact row_yes h : y = x.cols.map fun c => (values c).getD i.toNat default))
  clear hy hX x0 hb0
  go_enter Tryz.func22, Tryz.ntmps22
  by_cases h0 : i < 0
  · have hd : decide (i < 0) = true := decide_eq_true h0
    have q := Lib.hid (Hno.out fun z => by have := z.1; omega)
    go_wp2_with fail
    go_ret
    rw [q.out]
    exact OutRw.nil Hb0.out
  have hd : decide (i < 0) = false := decide_eq_false h0
  by_cases h1 : i < (on : Int)
  case neg =>
    have hd1 : decide ((on : Int) ≤ i) = true := decide_eq_true (by omega)
    have q := Lib.hid (Hno.out fun z => by have := z.2.1; have := Hon.out; omega)
    go_wp2_with fail
    go_ret
    rw [q.out]
    exact OutRw.nil Hb0.out
  have hd1 : decide ((on : Int) ≤ i) = false := decide_eq_false (by omega)
  obtain ⟨I, hI⟩ : ∃ I : Nat, i = (I : Int) := ⟨i.toNat, by omega⟩
  subst hI
  rw [Int.toNat_natCast] at Hyes
  have H01 := Lib.hid (And.intro h0 h1)
  clear h0
  go_wp2_with fail
  clear d4 d5 hd hd1
  obtain ⟨w1, hw1⟩ : ∃ w1, w1 = w.alloc (.cells #[.int .i64 x.part, .int .i64 x.id, .int .i64 x.st, .int .i64 x.en, .slice OA on oc, .slice CA cn cc] 28) := ⟨_, rfl⟩
  rw [← hw1] at X0 Hb0 ⊢
  clear hw1
  go_loopw [5, 6] (fun v j wr => ∃ k : Nat, j = .int .i64 k ∧ k ≤ cn ∧ Hid (wr.ownsRow w1.heap.size 56 4 v (part os I k).length (Wd.flatV (part os I k)) ∧ (∀ q, q < (part os I k).length → Wd.V1 ((part os I k).getD q default)) ∧ (∀ q, q < k → I < (values (os.getD q default).C).length) ∧ Below w1.heap.size w1 wr)) (fun _ j _ => cn - (intOf j).toNat)
  case atStart => exact ⟨0, rfl, Nat.zero_le _, Lib.hid ⟨World.ownsRow_nil _ _ _ _, (fun q h => by cases h), (fun q h => by omega), Below.refl _ _⟩⟩
  case round =>
    obtain ⟨k, rfl, hk, hJ⟩ := hrel
    have d5 := (Gb.six (X0.out.below X0.out.lt hJ.out.2.2.2)).2.2.2.2.2
    by_cases hltk : k < cn
    · have hkI : (k : Int) < (cn : Int) := by omega
      have hbw : Below w.heap.size w wr := Hb0.out.trans (hJ.out.2.2.2.mono Hb0.out.size)
      have hko : k < os.length := by rw [← Hcn.out]; exact hltk
      obtain ⟨b, f, hA, _, c0, c1, c2, hC⟩ := (HX.out.cols.below hbw).cells hko rfl
      have hcap := HX.out.cols.cap
      have hmax := HX.out.cols.max
      unfold maxLen at hmax
      subst hA
      have hsz := hlt k hko
      have hpn := part_next (I := I) hko
      have hpl := part_len (I := I) (show k ≤ os.length by omega)
      obtain ⟨o, ho⟩ : ∃ o, o = os.getD k default := ⟨_, rfl⟩
      rw [← ho] at c0 c1 c2 hC hsz hpn
      have Cv := Lib.hid (Cx.refValues_any o.A o.n o.c o.B o.m o.d o.C wr hC (by have := hsz.1; omega) hsz.2)
      have hbad := fun (h : ¬ I < (values o.C).length) => Hno.out fun z => h (by
          have := z.2.2 o.C (by
            rw [HX.out.eq, ho]
            unfold Wd.cols
            refine List.mem_map.2 ⟨os.getD k default, ?_, rfl⟩
            rw [List.getD_eq_getElem?_getD, List.getElem?_eq_getElem hko]
            exact List.getElem_mem hko)
          omega)
      have Hbad := Lib.hid hbad
      have Ho := Lib.hid ho
      have Hpn := Lib.hid hpn
      have Hpl := Lib.hid hpl
      have HJ := Lib.hid hJ.out
      have Hbw := Lib.hid hbw
      clear hbad ho hko hC hbw hsz hpn hpl hJ
      go_wp2_with fail
      refine Cv.out.mono ?_
      rintro e w3 ⟨A5, n5, c5, rfl, hV5, hB3⟩
      have hn5 := hV5.len
      have hcap5 := hV5.cap
      have hmax5 := hV5.max
      unfold maxLen at hmax5
      have HB3 := Lib.hid hB3
      by_cases q2 : I < n5
      case neg =>
        have t6 := Lib.hid (Hbad.out (by omega))
        have hd2 : decide ((n5 : Int) ≤ (I : Int)) = true := decide_eq_true (by omega)
        clear hB3 hV5 d5 c0 c1 c2
        go_wp2_with fail
        go_ret
        rw [t6.out]
        exact OutRw.nil (Hbw.out.trans (HB3.out.mono Hbw.out.size))
      have q2I : (I : Int) < (n5 : Int) := by omega
      have hd2 : decide ((n5 : Int) ≤ (I : Int)) = false := decide_eq_false (by omega)
      have hq5 : I < (values o.C).length := by omega
      obtain ⟨b5, f5, hA5, hb5, e0, e1, e2, e3, hv1⟩ := hV5.cells hq5 rfl
      subst hA5
      obtain ⟨z, hz⟩ : ∃ z, z = (values o.C).getD I default := ⟨_, rfl⟩
      rw [← hz] at e0 e1 e2 e3 Hpn hv1
      obtain ⟨vk, vi, vs, vb⟩ := z
      have hO3 := Wd.own_below HJ.out.1 hB3
      have hall := Lib.hid (HJ.out.2.2.2.trans (hB3.mono HJ.out.2.2.2.size))
      have hzz := hall.out.size
      have hO4 : (w3.alloc (.cells #[.int .i64 vk, .int .i64 vi, .string vs, .bool vb] 56)).ownsRow w1.heap.size 56 4 u5 (part os I k).length (Wd.flatV (part os I k)) := hO3.alloc _
      have hcv := Wd.vals_new w3 ⟨vk, vi, vs, vb⟩ _ rfl
      have hdk : (part os I k).length ≤ 1000000 := by have := Hpl.out; omega
      have Hv1 := Lib.hid hv1
      have Hq5 := Lib.hid hq5
      clear hB3 hV5 hO3 hz hv1 hq5 d5 c0 c1 c2 hb5
      go_wp2_with (at_builtin; refine Wd.wpList_appV1 _ rfl (.tmp 34) (.tmp 39) rfl w1.heap.size u5 (part os I k) rfl hO4 _ ⟨vk, vi, vs, vb⟩ rfl hcv hdk (by simp; omega) ?_; intro v6 w6 hO6 hg6)
      have hb6 : Below w1.heap.size w1 w6 := (hall.out.alloc hzz (.cells #[.int .i64 vk, .int .i64 vi, .string vs, .bool vb] 56)).grown hg6 (by simp; omega) fun g hg => (hO4.lt g hg).1
      have J6 := Lib.hid (show w6.ownsRow w1.heap.size 56 4 v6 (part os I (k + 1)).length (Wd.flatV (part os I (k + 1))) ∧ (∀ q, q < (part os I (k + 1)).length → Wd.V1 ((part os I (k + 1)).getD q default)) ∧ (∀ q, q < k + 1 → I < (values (os.getD q default).C).length) ∧ Below w1.heap.size w1 w6 from
        ⟨by rw [Hpn.out]; exact hO6, by rw [Hpn.out]; exact Sx.v1_app HJ.out.2.1 Hv1.out, fun q hq => by
          by_cases z : q = k
          · rw [z, ← Ho.out]; exact Hq5.out
          · exact HJ.out.2.2.1 q (by omega), hb6⟩)
      clear hb6 hO6 hg6 hO4
      go_roundw
      case rel => exact ⟨k + 1, by go_num, by omega, J6⟩
      case measure => simp [intOf]; omega
    · obtain rfl : k = cn := by omega
      have hkI : ¬ (k : Int) < (k : Int) := by omega
      have hhas : Has x (I : Int) := ⟨by omega, by have := H01.out.2; have := Hon.out; omega, fun c hc => by
        rw [HX.out.eq] at hc
        obtain ⟨o, ho, rfl⟩ := List.mem_map.1 hc
        obtain ⟨j, hj, rfl⟩ := List.getElem_of_mem ho
        have := hJ.out.2.2.1 j (by have := Hcn.out; omega)
        rw [List.getD_eq_getElem?_getD, List.getElem?_eq_getElem hj] at this
        exact Int.ofNat_lt.2 this⟩
      have hy := Lib.hid (show y = part os I k by
        rw [Hyes.out hhas, HX.out.eq, part, List.take_of_length_le (by rw [Wd.cols_len, Hcn.out]; exact Nat.le_refl _)])
      have H := Lib.hid (show wr.ownsRow w.heap.size 56 4 u5 y.length (Wd.flatV y) ∧ (∀ j, j < y.length → Wd.V1 (y.getD j default)) ∧ Below w.heap.size w wr from by
        rw [hy.out]
        exact ⟨Wd.own_down hJ.out.1 Hb0.out.size, hJ.out.2.1, Hb0.out.trans (hJ.out.2.2.2.mono Hb0.out.size)⟩)
      clear hJ hhas
      go_wp2_with fail
      go_ret
      exact ⟨_, rfl, H.out.1, H.out.2.1, H.out.2.2⟩
end Se
end Go.Proofs.YtoibpbnebcoafaaGreat
namespace Go.Proofs.YtoibpbnebcoafaaGreat
set_option maxRecDepth 20000
open Go.RowKit Go.Maps
namespace Se
open Va (Vl)
open Sc (Sch MayS FitS tr tr_yes tr_no tr_iff tr_congr)
open Sx (Sb five)
open Wd (Cr)
theorem rows_next {x : Seg} {k : Nat} (h : k < x.offs.length) : (rows x).take (k + 1) = (rows x).take k ++ [row x (k : Int)] := by
  rw [List.take_succ_eq_append_getElem (by rw [rows_len]; exact h)]
  congr 2
  have := rows_get h
  rw [← this]
  simp [List.getD, rows_len, h]
set_option maxHeartbeats 8000000 in
theorem refRows_any (OA : Option Addr) (on oc : Nat) (CA : Option Addr) (cn cc : Nat) (os : List Cr) (x : Seg) (w : World) (hX : Sg w OA on oc CA cn cc os x) (hlt : Lt os) (hcn : cn ≤ 1000000) (hon1 : on ≤ 1000000) :
    Calls Tryz.prog 25 #[.agg #[.int .i64 x.part, .int .i64 x.id, .int .i64 x.st, .int .i64 x.en, .slice OA on oc, .slice CA cn cc]] w (OutL w (rows x)) := by
  obtain ⟨i0, hi, gz0, gz1, gz2⟩ := info_parts Wd.info_vs
  have I0 := Lib.hid (And.intro hi (And.intro gz0 (And.intro gz1 gz2)))
  have hb0 := (Below.refl w.heap.size w).alloc (Nat.le_refl _) (.cells #[.int .i64 x.part, .int .i64 x.id, .int .i64 x.st, .int .i64 x.en, .slice OA on oc, .slice CA cn cc] 28)
  have x0 := Gb.new w x.part x.id x.st x.en OA on oc CA cn cc
  have HX := Lib.hid hX
  have Hon := Lib.hid hX.offs.len
  have Hlt := Lib.hid hlt
  obtain ⟨w1, hw1⟩ : ∃ w1, w1 = w.alloc (.cells #[.int .i64 x.part, .int .i64 x.id, .int .i64 x.st, .int .i64 x.en, .slice OA on oc, .slice CA cn cc] 28) := ⟨_, rfl⟩
  rw [← hw1] at x0 hb0
  have X0 := Lib.hid x0
  have Hb0 := Lib.hid hb0
  have Hw1 := Lib.hid hw1
  clear hX x0 hb0 hi gz0 gz1 gz2 hlt hw1
  go_enter Tryz.func25, Tryz.ntmps25
  go_upto_region 1 with fail
  rw [← Hw1.out]
  go_wp2_with fail
  go_loopw [3, 4] (fun v j wr => ∃ (k : Nat) (us : List Value), j = .int .i64 k ∧ k ≤ on ∧ Hid (wr.ownsRow w1.heap.size 45 1 v k us ∧ Wd.Hw wr us ((rows x).take k) ∧ Below w1.heap.size w1 wr)) (fun _ j _ => on - (intOf j).toNat)
  case atStart => exact ⟨0, [], rfl, Nat.zero_le _, Lib.hid ⟨World.ownsRow_nil _ _ _ _, Wd.Hw.nil _, Below.refl _ _⟩⟩
  case round =>
    obtain ⟨k, us, rfl, hk, hJ⟩ := hrel
    obtain ⟨d0, d1, d2, d3, d4, d5⟩ := Gb.six (X0.out.below X0.out.lt hJ.out.2.2)
    by_cases hltk : k < on
    · have hkI : (k : Int) < (on : Int) := by omega
      have hbw : Below w.heap.size w wr := Hb0.out.trans (hJ.out.2.2.mono Hb0.out.size)
      have Cv := Lib.hid (refRow_any OA on oc CA cn cc os x (k : Int) wr (HX.out.below hbw) Hlt.out hcn)
      have Hnx := Lib.hid (rows_next (show k < x.offs.length by have := Hon.out; omega))
      obtain ⟨y, hy⟩ : ∃ y, y = row x (k : Int) := ⟨_, rfl⟩
      rw [← hy] at Cv Hnx
      have HJ := Lib.hid hJ.out
      clear hbw hJ hy
      go_wp2_with fail
      refine Cv.out.mono ?_
      rintro e w3 ⟨v5, rfl, hO5, hV5, hB3⟩
      obtain ⟨A5, c5, rfl⟩ := Wd.own_shape4 hO5
      have hall := Lib.hid (HJ.out.2.2.trans (hB3.mono HJ.out.2.2.size))
      have hzz := hall.out.size
      have hown3 := (Wd.own_below HJ.out.1 hB3).alloc (.cells #[.slice A5 y.length c5] 45)
      have hnew := (Wd.Bx.new w3 45 #[.slice A5 y.length c5]).cell 0
      have HW := Lib.hid (((HJ.out.2.1.below hB3).snoc hO5 hV5).below ((Below.refl w3.heap.size w3).alloc (Nat.le_refl _) (.cells #[.slice A5 y.length c5] 45)))
      rw [← Hnx.out] at HW
      clear hO5 hV5 hB3 Cv d0 d1 d2 d3 d4 d5
      go_wp2_with (at_builtin; refine Wd.wpList_app1v _ rfl (.tmp 12) (.tmp 16) 33 rfl w1.heap.size 45 i0 _ 24 Tryz.underlying33 I0.out.1 I0.out.2.1 I0.out.2.2.1 I0.out.2.2.2 rfl u3 k us rfl hown3 ⟨w3.heap.size, 0, none⟩ (.slice A5 y.length c5) rfl hnew rfl rfl (by unfold maxLen; omega) (by omega) (by simp; omega) ?_; intro v7 w7 hown7 hgrow7)
      have J7 := Lib.hid (show w7.ownsRow w1.heap.size 45 1 v7 (k + 1) (us ++ [.slice A5 y.length c5]) ∧ Wd.Hw w7 (us ++ [.slice A5 y.length c5]) ((rows x).take (k + 1)) ∧ Below w1.heap.size w1 w7 from
        ⟨hown7, HW.out.grown hown3 (by decide) hgrow7, (hall.out.alloc hzz (.cells #[.slice A5 y.length c5] 45)).grown hgrow7 (by simp; omega) fun g hg => (hown3.lt g hg).1⟩)
      clear hown7 hgrow7 hown3
      go_roundw
      case rel => exact ⟨k + 1, _, by go_num, by omega, J7⟩
      case measure => simp [intOf]; omega
    · obtain rfl : k = on := by omega
      have hkI : ¬ (k : Int) < (k : Int) := by omega
      have hw := hJ.out.2.1
      rw [List.take_of_length_le (by rw [rows_len, ← Hon.out]; exact Nat.le_refl _)] at hw
      obtain ⟨A5, c5, rfl, hL⟩ := Wd.Ls.of_own hJ.out.1 hw.hv
      have H := Lib.hid (And.intro hL (Hb0.out.trans (hJ.out.2.2.mono Hb0.out.size)))
      clear hJ hw hL
      go_wp2_with fail
      go_ret
      exact ⟨_, _, _, rfl, H.out.1, H.out.2⟩
end Se
end Go.Proofs.YtoibpbnebcoafaaGreat
