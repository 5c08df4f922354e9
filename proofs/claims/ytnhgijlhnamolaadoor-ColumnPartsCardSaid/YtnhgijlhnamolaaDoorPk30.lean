/- Package column: Values, At, Ends. What the reference of layer 10 does: Ids. -/
import Derived.StillTailTactics
import Derived.BigQuiet
import Derived.Deep.QuietTactic
import Derived.Deep.RegionHeld3
import Derived.Test.YtnhgijlhnamolaaDoorPk18
import Derived.Test.YtnhgijlhnamolaaDoorPk11
import Derived.Test.YtnhgijlhnamolaaDoorPk20
import Derived.Test.YtnhgijlhnamolaaDoorPk07
import Derived.Test.YtnhgijlhnamolaaDoorPk10
namespace Go.Proofs.YtnhgijlhnamolaaDoor
set_option maxRecDepth 20000
open Go.RowKit
namespace Cx
open Va (Vl May ord null)
open Sc (tr tr_yes tr_no tr_iff)
open Co
open Bi (I64)
theorem valL {C : Col} {A : Option Addr} {n c : Nat} {w : World} (h : Wd.Vs w A n c C.dict) : ∀ j, j < (values C).length → Wd.V1 ((values C).getD j default) := by
  intro j hj
  rw [values_len] at hj
  have hx : (nums C).getD j 0 ∈ nums C := by
    rw [List.getD_eq_getElem?_getD, List.getElem?_eq_getElem hj]
    exact List.getElem_mem hj
  obtain ⟨_, h0, h1⟩ := nums_in hx
  have e : (values C).getD j default = C.dict.getD ((nums C).getD j 0).toNat default := by
    unfold values
    rw [List.getD_eq_getElem?_getD, List.getElem?_map, List.getElem?_eq_getElem hj, Option.map_some, Option.getD_some]
    rw [List.getD_eq_getElem?_getD (l := nums C), List.getElem?_eq_getElem hj, Option.getD_some]
  rw [e]
  obtain ⟨_, _, _, _, _, h2⟩ := h.at_ _ (show ((nums C).getD j 0).toNat < C.dict.length by omega)
  exact h2
/-- The first k values, and nothing behind. -/
def fillV (l : List Vl) (k : Nat) : List Vl := l.take k ++ List.replicate (l.length - k) null
theorem fillV_zero (l : List Vl) : fillV l 0 = List.replicate l.length null := by simp [fillV]
theorem fillV_all (l : List Vl) : fillV l l.length = l := by simp [fillV]
theorem fillV_len (l : List Vl) (k : Nat) : (fillV l k).length = l.length := by simp [fillV]; omega
theorem fillV_set (l : List Vl) (k : Nat) (hk : k < l.length) : (fillV l k).set k (l.getD k default) = fillV l (k + 1) := by
  refine List.ext_getElem (by simp [fillV_len]) fun i h1 h2 => ?_
  simp only [fillV_len, List.length_set] at h1 h2
  rw [List.getElem_set]
  simp only [fillV, List.getElem_append, List.length_take, List.getElem_take, List.getElem_replicate]
  by_cases e : k = i
  · subst e
    rw [if_pos rfl, dif_pos (by omega)]
    simp [List.getD, hk]
  · rw [if_neg e]
    by_cases q : i < min k l.length
    · rw [dif_pos q, dif_pos (by omega)]
    · rw [dif_neg q, dif_neg (by omega)]
set_option maxHeartbeats 8000000 in
theorem values_any (A : Option Addr) (n c : Nat) (B : Option Addr) (m d : Nat) (C : Col) (w : World) (h : Cl w A n c B m d C) (hn : n ≤ 1000) (hm : m ≤ 1000000) :
    Calls Tryd.prog 13 #[.agg #[.int .i64 C.n, .slice A n c, .slice B m d]] w (OutV w (values C)) := by
  obtain ⟨j0, hj, gz0, gz1, gz2⟩ := info_parts Wd.info_vl
  have hb0 := (Below.refl w.heap.size w).alloc (Nat.le_refl _) (.cells #[.int .i64 C.n, .slice A n c, .slice B m d] 27)
  have x0 := Cb.new w C.n A n c B m d
  have C1 := Lib.hid (unpack_any A n c B m d C _ (h.below hb0) hn hm)
  have hcap := h.dict.cap
  have hmx := h.dict.max
  unfold maxLen at hmx
  have HD := Lib.hid h.dict
  have Hn := Lib.hid h.dict.len
  have Hb0 := Lib.hid hb0
  have H1 := Lib.hid (valL h.dict)
  obtain ⟨L, hL⟩ : ∃ L, L = nums C := ⟨_, rfl⟩
  obtain ⟨T, hT⟩ : ∃ T, T = values C := ⟨_, rfl⟩
  have Hin := Lib.hid (show ∀ x ∈ L, 0 ≤ x ∧ x < (n : Int) from fun x hx => by
    rw [hL] at hx
    have := nums_in hx
    rw [h.dict.len]
    exact this.2)
  have Hll := Lib.hid (show L.length ≤ 4096 by rw [hL]; exact nums_4096 C)
  have HTl := Lib.hid (show T.length = L.length by rw [hT, hL]; exact values_len C)
  have HTk := Lib.hid (show ∀ k, k < L.length → T.getD k default = C.dict.getD (L.getD k 0).toNat default from fun k hk => by
    rw [hT]
    rw [hL] at hk ⊢
    unfold values
    rw [List.getD_eq_getElem?_getD, List.getElem?_map, List.getElem?_eq_getElem hk, Option.map_some, Option.getD_some]
    rw [List.getD_eq_getElem?_getD (l := nums C), List.getElem?_eq_getElem hk, Option.getD_some])
  have HT0 := Lib.hid (show ¬ Valid C → T = [] from fun q => by rw [hT]; exact values_no q)
  rw [← hL] at C1
  rw [← hT] at H1 ⊢
  have h4 := Hll.out
  obtain ⟨N, hN⟩ : ∃ N, N = C.n := ⟨_, rfl⟩
  rw [← hN] at x0 C1 Hb0 ⊢
  obtain ⟨r, hr⟩ : ∃ r, r = tr (Valid C) := ⟨_, rfl⟩
  rw [← hr] at C1
  have Hr := Lib.hid hr
  clear h hb0 hL hT hN hr
  have c0 := x0.c0
  have c1 := x0.c1
  have c2 := x0.c2
  go_enter Tryd.func13, Tryd.ntmps13
  go_wp2_with fail
  refine C1.out.mono ?_
  rintro e w1 ⟨P, p, q, rfl, hSl, hB1⟩
  have y0 := x0.below (by simp) hB1
  have hb1 := Hb0.out.trans (hB1.mono (by simp))
  have hlt1 := y0.lt
  have hpl := hSl.len
  have hpc := hSl.cap
  have hpm := hSl.max
  unfold maxLen at hpm
  have hp1 : p ≤ 4096 := by omega
  have Hpl := Lib.hid hpl
  have HSl := Lib.hid hSl
  have HD1 := Lib.hid (HD.out.below hb1)
  have Hb1 := Lib.hid hb1
  clear c0 c1 c2 x0 hB1 C1 hpl hSl hb1 h4 HD
  cases r with
  | false =>
    have e0 := HT0.out (fun q => by have := Hr.out; rw [tr_yes q] at this; cases this)
    have HE := Lib.hid e0
    clear e0
    go_wp2_with fail
    go_ret
    exact ⟨none, 0, 0, rfl, by rw [HE.out]; exact Wd.Vs.none_ _, Hb1.out⟩
  | true =>
  go_wp2_with (at_make; refine wpList_make_full _ rfl (.tmp 16) (.tmp 16) 22 rfl w1.heap.size 48 j0 _ 4 Tryd.underlying22 hj gz0 gz1 .i64 .i64 (p : Int) (p : Int) p rfl rfl rfl rfl (by rw [gz2]; omega) (by unfold maxLen; omega) (Nat.le_refl _) ?_; intro w3 hown hgrow; rw [Wd.made_null] at hown)
  obtain ⟨hR0, -, -⟩ := Wd.RowV.of_own hown
  have hB3 : Below w1.heap.size w1 w3 := (Below.refl _ _).grown hgrow (Nat.le_refl _) (by simp)
  have hR1 : Wd.RowV w3 w1.heap.size (fillV T 0) := by rw [fillV_zero, HTl.out, ← Hpl.out]; exact hR0
  have I0 := Lib.hid (And.intro hR1 hB3)
  clear hown hgrow hB3 hR0 hR1
  go_loopw [20] (fun j wr => ∃ k : Nat, j = .int .i64 k ∧ k ≤ p ∧ Wd.RowV wr w1.heap.size (fillV T k) ∧ Below w1.heap.size w1 wr) (fun j _ => p - (intOf j).toNat)
  case atStart => exact ⟨0, rfl, Nat.zero_le _, I0.out.1, I0.out.2⟩
  case round =>
    obtain ⟨k, rfl, hk, hR, hB⟩ := hrel
    by_cases hkp : k < p
    · have hkI : (k : Int) < p := by omega
      have hk0 : (0 : Int) ≤ (k : Int) := by omega
      have hkL : k < L.length := by rw [← Hpl.out]; exact hkp
      obtain ⟨b, o, hP, hbl, hc⟩ := (HSl.out.below hB).rd k hkL
      subst hP
      obtain ⟨x, hx⟩ : ∃ x, x = L.getD k 0 := ⟨_, rfl⟩
      have hxm : x ∈ L := by
        rw [hx, List.getD_eq_getElem?_getD, List.getElem?_eq_getElem hkL]
        exact List.getElem_mem hkL
      obtain ⟨hx0, hxn⟩ := Hin.out x hxm
      have hT := HTk.out k hkL
      rw [← hx] at hc hT
      obtain ⟨z, hz⟩ : ∃ z : Nat, x = (z : Int) := ⟨x.toNat, by omega⟩
      subst hz
      rw [Int.toNat_natCast] at hT
      have hzn : z < C.dict.length := by rw [← Hn.out]; omega
      have HDr := HD1.out.below hB
      obtain ⟨e, f, hA, heB, d0, d1, d2, d3, hv1⟩ := HDr.cells (j := z) hzn rfl
      subst hA
      obtain ⟨y, hy⟩ : ∃ y, y = C.dict.getD z default := ⟨_, rfl⟩
      rw [← hy] at d0 d1 d2 d3 hT
      obtain ⟨vk, vi, vs, vb⟩ := y
      have HT := Lib.hid hT
      have hc1 := (y0.below hlt1 hB).c1
      have hkT : k < (fillV T k).length := by rw [fillV_len, HTl.out]; exact hkL
      obtain ⟨u, ⟨u0, u1, u2, u3⟩, v0, v1, v2, v3⟩ := hR.four hkT
      have HR := Lib.hid hR
      have hzl := hR.lt
      have HB := Lib.hid hB
      have HkT := Lib.hid hkT
      have HkL := Lib.hid hkL
      clear hx hxm hT hzn hy HDr hv1 hR hB hkT hkL
      go_wp2_with fail
      go_roundw
      case rel =>
        refine ⟨k + 1, by go_num, by omega, ?_, ?_⟩
        · have e5 := fillV_set T k (by rw [HTl.out]; exact HkL.out)
          rw [HT.out] at e5
          rw [← e5]
          exact HR.out.set k HkT.out ⟨vk, vi, vs, vb⟩
        · exact (((HB.out.setCell (Nat.le_refl _) _).setCell (Nat.le_refl _) _).setCell (Nat.le_refl _) _).setCell (Nat.le_refl _) _
      case measure => simp [intOf]; omega
    · have hkI : ¬ (k : Int) < p := by omega
      obtain rfl : k = p := by omega
      have e2 : fillV T k = T := by rw [Hpl.out, ← HTl.out]; exact fillV_all T
      rw [e2] at hR
      have HR := Lib.hid hR
      have HB := Lib.hid (Hb1.out.trans (hB.mono Hb1.out.size))
      have HL := Lib.hid (show k = T.length by rw [HTl.out]; exact Hpl.out)
      clear hR hB e2
      go_wp2_with fail
      go_ret
      exact ⟨_, _, _, rfl, HR.out.vs k HL.out (by unfold maxLen; omega) H1.out, HB.out⟩
set_option maxHeartbeats 8000000 in
theorem at_any (A : Option Addr) (n c : Nat) (B : Option Addr) (m d : Nat) (C : Col) (i : Int) (w : World) (h : Cl w A n c B m d C) (hn : n ≤ 1000) (hm : m ≤ 1000000) (_hi : I64 i) :
    Calls Tryd.prog 20 #[.agg #[.int .i64 C.n, .slice A n c, .slice B m d], .int .i64 i] w fun e w' => ∃ k x s b r, (⟨k, x, s, b⟩, r) = atv C i ∧ e = .returned (.tuple #[.agg #[.int .i64 k, .int .i64 x, .string s, .bool b], .bool r]) ∧ Below w.heap.size w w' := by
  have hb0 := (Below.refl w.heap.size w).alloc (Nat.le_refl _) (.cells #[.int .i64 C.n, .slice A n c, .slice B m d] 27)
  have hb1 := hb0.alloc hb0.size (.cells #[.int .i64 0, .int .i64 0, .string ⟨#[]⟩, .bool false] 48)
  have x0 : Cb ((w.alloc (.cells #[.int .i64 C.n, .slice A n c, .slice B m d] 27)).alloc (.cells #[.int .i64 0, .int .i64 0, .string ⟨#[]⟩, .bool false] 48)) w.heap.size C.n A n c B m d := ⟨(Cb.new w C.n A n c B m d).bx.alloc _⟩
  have v0 : Vc.Vb ((w.alloc (.cells #[.int .i64 C.n, .slice A n c, .slice B m d] 27)).alloc (.cells #[.int .i64 0, .int .i64 0, .string ⟨#[]⟩, .bool false] 48)) (w.heap.size + 1) 0 0 ⟨#[]⟩ false := by
    have := Wd.Bx.new (w.alloc (.cells #[.int .i64 C.n, .slice A n c, .slice B m d] 27)) 48 #[.int .i64 0, .int .i64 0, .string ⟨#[]⟩, .bool false]
    rwa [World.size_alloc] at this
  have C1 := Lib.hid (unpack_any A n c B m d C _ (h.below hb1) hn hm)
  have hcap := h.dict.cap
  have hmx := h.dict.max
  unfold maxLen at hmx
  have HD := Lib.hid h.dict
  have Hn := Lib.hid h.dict.len
  have Hb1 := Lib.hid hb1
  obtain ⟨L, hL⟩ : ∃ L, L = nums C := ⟨_, rfl⟩
  have Hin := Lib.hid (show ∀ x ∈ L, 0 ≤ x ∧ x < (n : Int) from fun x hx => by
    rw [hL] at hx
    have := nums_in hx
    rw [h.dict.len]
    exact this.2)
  have Hll := Lib.hid (show L.length ≤ 4096 by rw [hL]; exact nums_4096 C)
  have Ha := Lib.hid (show ∀ k : Nat, k < L.length → atv C (k : Int) = (C.dict.getD (L.getD k 0).toNat default, true) from fun k hk => by
    rw [hL] at hk ⊢
    unfold atv
    rw [if_pos ⟨by omega, by omega⟩, Int.toNat_natCast]
    unfold values
    rw [List.getD_eq_getElem?_getD, List.getElem?_map, List.getElem?_eq_getElem hk, Option.map_some, Option.getD_some]
    rw [List.getD_eq_getElem?_getD (l := nums C), List.getElem?_eq_getElem hk, Option.getD_some])
  have Hz := Lib.hid (show ¬ (0 ≤ i ∧ i < (L.length : Int)) → atv C i = (null, false) from fun q => by rw [hL] at q; exact if_neg q)
  have Hz0 := Lib.hid (show ¬ Valid C → L = [] from fun q => by rw [hL]; exact nums_no q)
  rw [← hL] at C1
  have h4 := Hll.out
  obtain ⟨N, hN⟩ : ∃ N, N = C.n := ⟨_, rfl⟩
  rw [← hN] at x0 v0 C1 Hb1 ⊢
  obtain ⟨r, hr⟩ : ∃ r, r = tr (Valid C) := ⟨_, rfl⟩
  rw [← hr] at C1
  have Hr := Lib.hid hr
  obtain ⟨wa, hwa⟩ : ∃ wa, wa = (w.alloc (.cells #[.int .i64 N, .slice A n c, .slice B m d] 27)).alloc (.cells #[.int .i64 0, .int .i64 0, .string ⟨#[]⟩, .bool false] 48) := ⟨_, rfl⟩
  have Hwa := Lib.hid hwa
  rw [← hwa] at x0 v0 C1 Hb1
  have c0 := x0.c0
  have c1 := x0.c1
  have c2 := x0.c2
  clear h hb0 hb1 hL hN hr hwa
  go_enter Tryd.func20, Tryd.ntmps20
  go_wp2_with fail
  rw [← Hwa.out]
  go_wp2_with fail
  refine C1.out.mono ?_
  rintro e w1 ⟨P, p, q, rfl, hSl, hB1⟩
  have y0 := x0.below x0.lt hB1
  have v1 := Wd.Bx.below v0 (Wd.Bx.lt v0) hB1
  have hb1 := Hb1.out.trans (hB1.mono Hb1.out.size)
  have hpl := hSl.len
  have hpc := hSl.cap
  have hpm := hSl.max
  unfold maxLen at hpm
  have hp1 : p ≤ 4096 := by omega
  have Hpl := Lib.hid hpl
  have HSl := Lib.hid hSl
  have HD1 := Lib.hid (HD.out.below hb1)
  have HB1 := Lib.hid hb1
  have HV1 := Lib.hid v1
  obtain ⟨⟨g0, g1, g2, g3⟩, f0, f1, f2, f3⟩ := Vc.four v1
  have hlv := Wd.Bx.lt v1
  clear c0 c1 c2 x0 v0 hB1 C1 hpl hSl hb1 h4 HD v1
  have hc1 := y0.c1
  have none_ : atv C i = (null, false) → ∃ k x s b r, (⟨k, x, s, b⟩, r) = atv C i ∧ Ending.returned (.tuple #[.agg #[.int .i64 0, .int .i64 0, .string ⟨#[]⟩, .bool false], .bool false]) = .returned (.tuple #[.agg #[.int .i64 k, .int .i64 x, .string s, .bool b], .bool r]) ∧ True := fun e => ⟨0, 0, ⟨#[]⟩, false, false, e.symm, rfl, trivial⟩
  have None := Lib.hid none_
  have hbs := Lib.hid (fun (k i : Int) (s : ByteArray) (b : Bool) => (Vc.below_setV (k := k) (i := i) (s := s) (b := b) HB1.out (show w.heap.size ≤ w.heap.size + 1 by omega)))
  clear none_
  by_cases hin : r = true ∧ 0 ≤ i ∧ i < (p : Int)
  case neg =>
    have e0 := Hz.out (fun q => by
      refine hin ⟨?_, q.1, by have := Hpl.out; omega⟩
      by_cases hv : Valid C
      · rw [Hr.out]; exact tr_yes hv
      · have := Hz0.out hv
        rw [this] at q
        simp at q
        omega)
    have HE := Lib.hid (None.out e0)
    clear e0 None
    have hcase : r = false ∨ (r = true ∧ i < 0) ∨ (r = true ∧ 0 ≤ i ∧ (p : Int) ≤ i) := by
      cases r
      · exact .inl rfl
      · by_cases q : i < 0
        · exact .inr (.inl ⟨rfl, q⟩)
        · exact .inr (.inr ⟨rfl, by omega, Classical.byContradiction fun q2 => hin ⟨rfl, by omega, by omega⟩⟩)
    clear hin
    rcases hcase with rfl | ⟨rfl, q1⟩ | ⟨rfl, q1, q2⟩
    all_goals (
      go_wp2_with fail
      (try simp only [Exit.inBlock, Exit.then])
      obtain ⟨k', x', s', b', r', e1, e2, -⟩ := HE.out
      refine bodyPost_ret (v := .tuple #[.agg #[.int .i64 0, .int .i64 0, .string ⟨#[]⟩, .bool false], .bool false]) ?_ rfl ⟨k', x', s', b', r', e1, e2, hbs.out 0 0 ⟨#[]⟩ false⟩
      rw [res_cell2 rfl]; go_simp)
  obtain ⟨rfl, hi0, hip⟩ := hin
  obtain ⟨k, rfl⟩ : ∃ k : Nat, i = (k : Int) := ⟨i.toNat, by omega⟩
  have hkL : k < L.length := by rw [← Hpl.out]; omega
  obtain ⟨b, o, hP, hbl, hc⟩ := HSl.out.rd k hkL
  subst hP
  obtain ⟨x, hx⟩ : ∃ x, x = L.getD k 0 := ⟨_, rfl⟩
  have hxm : x ∈ L := by
    rw [hx, List.getD_eq_getElem?_getD, List.getElem?_eq_getElem hkL]
    exact List.getElem_mem hkL
  obtain ⟨hx0, hxn⟩ := Hin.out x hxm
  have hT := Ha.out k hkL
  rw [← hx] at hc hT
  obtain ⟨z, hz⟩ : ∃ z : Nat, x = (z : Int) := ⟨x.toNat, by omega⟩
  subst hz
  rw [Int.toNat_natCast] at hT
  have hzn : z < C.dict.length := by rw [← Hn.out]; omega
  obtain ⟨e, f, hA, heB, d0, d1, d2, d3, hv1⟩ := HD1.out.cells (j := z) hzn rfl
  subst hA
  obtain ⟨y, hy⟩ : ∃ y, y = C.dict.getD z default := ⟨_, rfl⟩
  rw [← hy] at d0 d1 d2 d3 hT
  obtain ⟨vk, vi, vs, vb⟩ := y
  have HT := Lib.hid hT
  clear hx hxm hT hzn hy hv1 hkL None
  go_wp2_with fail
  go_region
  all_goals (
    go_wp2_with fail
    (try simp only [Exit.inBlock, Exit.then])
    refine bodyPost_ret (v := .tuple #[.agg #[.int .i64 vk, .int .i64 vi, .string vs, .bool vb], .bool true]) ?_ rfl ⟨vk, vi, vs, vb, true, HT.out.symm, rfl, ?_⟩
    · rw [res_cell2 rfl]; go_simp
    · have := hbs.out vk vi vs vb
      exact ⟨this.os, this.tape, this.output, this.size, this.block⟩)
end Cx
end Go.Proofs.YtnhgijlhnamolaaDoor
namespace Go.Proofs.YtnhgijlhnamolaaDoor
set_option maxRecDepth 20000
open Go.RowKit
namespace Cx
open Va (Vl May ord null)
open Sc (tr tr_yes tr_no tr_iff)
open Co
/-- Which numbers below so many have come among the first k. -/
def Seen (l : List Int) (sb : List Bool) (n k : Nat) : Prop := sb.length = n ∧ ∀ j, j < n → sb.getD j false = decide ((j : Int) ∈ l.take k)
theorem seen_zero (l : List Int) (n : Nat) : Seen l (List.replicate n false) n 0 := ⟨by simp, fun j hj => by simp [List.getD, hj]⟩
theorem seen_next {l : List Int} {sb : List Bool} {n k p : Nat} (h : Seen l sb n k) (hk : k < l.length) (hp : l.getD k 0 = (p : Int)) (hpn : p < n) : Seen l (sb.set p true) n (k + 1) := by
  refine ⟨by simpa using h.1, fun j hj => ?_⟩
  have ht : l.take (k + 1) = l.take k ++ [(p : Int)] := by
    rw [List.take_succ_eq_append_getElem hk]
    rw [List.getD_eq_getElem?_getD, List.getElem?_eq_getElem hk, Option.getD_some] at hp
    rw [hp]
  rw [ht]
  by_cases e : p = j
  · subst e
    have : p < sb.length := by rw [h.1]; exact hpn
    simp [List.getD, this]
  · have h2 := h.2 j hj
    have : (sb.set p true).getD j false = sb.getD j false := by
      simp [List.getD, List.getElem?_set_ne e]
    rw [this, h2]
    refine decide_eq_decide.2 ?_
    rw [List.mem_append, List.mem_singleton]
    constructor
    · exact .inl
    · rintro (q | q)
      · exact q
      · omega
end Cx
end Go.Proofs.YtnhgijlhnamolaaDoor
