/- What the reference of layer 10 does: Build. Package column: Values, At, Ends. Package seal: Row. -/
import Derived.Deep.DeepCutAuto
import Derived.Lib.Hide
import Derived.Test.YtaoeipehpakngaaGreatDoorPa06
import Derived.Test.YtaoeipehpakngaaGreatDoorPa14
import Derived.Test.YtaoeipehpakngaaGreatDoorPa19
import Derived.Test.YtaoeipehpakngaaGreatDoorPa17
import Derived.Test.YtaoeipehpakngaaGreatDoorPa18
import Derived.Test.YtaoeipehpakngaaGreatDoorPa07
import Derived.Test.YtaoeipehpakngaaGreatDoorPa12
namespace Go.Proofs.YtaoeipehpakngaaGreatDoor
set_option maxRecDepth 20000
open Go.RowKit
namespace Cx
open Va (Vl May ord null)
open Sc (tr tr_yes tr_no tr_iff)
open Co Dc
open Bx (Rw)
theorem res_cell2 {fn : Func} {p u : Tmp} {ty : TypeId} (h : fn.results = #[.cell p ty, .tmp u]) (tmps : Array Value) (P : Program) (w : World) :
    (results fn tmps).run P w = ((asAddr (tmps.getD p undef)).run P w).andThen fun a w₁ => ((loadVar ty a).run P w₁).andThen fun x w₂ => .ok (.tuple #[x, tmps.getD u undef]) w₂ := by
  simp only [results, h]
  simp [Sem.run_bind, Result.andThen]
theorem adds_next {l : List Vl} {k : Nat} (h : k < l.length) : adds 4096 [] (l.take (k + 1)) = (add (adds 4096 [] (l.take k)) 4096 (l.getD k default)).1 := by
  have e : l.take (k + 1) = l.take k ++ [l.getD k default] := by
    rw [List.take_succ_eq_append_getElem h]
    simp [List.getD, h]
  rw [e, adds_app]
  rfl
theorem box3 {w : World} {p : Nat} {a b c x y z : Value} (h : Wd.Bx w p 57 #[a, b, c]) : Wd.Bx (((w.setCell ⟨p, 0, none⟩ x).setCell ⟨p, 1, none⟩ y).setCell ⟨p, 2, none⟩ z) p 57 #[x, y, z] := by
  unfold Wd.Bx at *
  have h1 := heap_setCell_same w p 0 _ 57 x h
  have h2 := heap_setCell_same _ p 1 _ 57 y h1
  have h3 := heap_setCell_same _ p 2 _ 57 z h2
  rw [h3]
  simp
section
variable {w : World} {p : Nat} {N : Int} {A : Option Addr} {n c : Nat} {B : Option Addr} {m d : Nat} {R : Option Addr} {r t : Nat}
theorem cb_cell (h : Cb w p N A n c B m d) (i : Nat) (v : Value) (hv : w.cell? ⟨p, i, none⟩ = some v) : v = .int .i64 N ∨ v = .slice A n c ∨ v = .slice B m d := by
  rw [h.bx.cell i] at hv
  match i, hv with
  | 0, e => exact .inl (Option.some.inj e).symm
  | 1, e => exact .inr (.inl (Option.some.inj e).symm)
  | 2, e => exact .inr (.inr (Option.some.inj e).symm)
theorem vs_ne {vs : List Vl} (h : Cb w p N A n c B m d) (k : Wd.Vs w R r t vs) : ∀ a, R = some a → vs ≠ [] → a.block ≠ p := by
  intro a ha hv
  obtain ⟨b, f, e, _, _, _, d2, _⟩ := k.cells (j := 0) (List.length_pos_iff.2 hv) rfl
  rw [e] at ha
  cases ha
  rintro rfl
  rcases cb_cell h _ _ d2 with q | q | q <;> cases q
theorem sl_ne {ys : List Int} (h : Cb w p N A n c B m d) (k : Wd.Sl w .u8 R r t ys) : ∀ a, R = some a → ys ≠ [] → a.block ≠ p := by
  intro a ha hv
  obtain ⟨b, f, e, _, hc⟩ := k.rd 0 (List.length_pos_iff.2 hv)
  rw [e] at ha
  cases ha
  rintro rfl
  rcases cb_cell h _ _ hc with q | q | q <;> cases q
theorem vs_store {vs : List Vl} (k : Wd.Vs w R r t vs) (hne : ∀ a, R = some a → vs ≠ [] → a.block ≠ p) (i : Nat) (u : Value) : Wd.Vs (w.setCell ⟨p, i, none⟩ u) R r t vs :=
  ⟨k.len, k.cap, k.max, k.nil, fun j hj => by
    obtain ⟨b, f, e, hlt, hc, h1⟩ := k.at_ j hj
    have hb := hne _ e (List.ne_nil_of_length_pos (by omega))
    exact ⟨b, f, e, by simpa using hlt, fun i v hv => (World.cell?_setCell_other _ _ _ _ (fun q => hb (by cases q; rfl))).trans (hc i v hv), h1⟩⟩
theorem sl_store {ys : List Int} (k : Wd.Sl w .u8 R r t ys) (hne : ∀ a, R = some a → ys ≠ [] → a.block ≠ p) (i : Nat) (u : Value) : Wd.Sl (w.setCell ⟨p, i, none⟩ u) .u8 R r t ys :=
  ⟨k.len, k.cap, k.max, k.nil, fun j hj => by
    obtain ⟨b, f, e, hlt, hc⟩ := k.rd j hj
    have hb := hne _ e (List.ne_nil_of_length_pos (by omega))
    exact ⟨b, f, e, by simpa using hlt, (World.cell?_setCell_other _ _ _ _ (fun q => hb (by cases q; rfl))).trans hc⟩⟩
end
set_option maxHeartbeats 8000000 in
theorem refBuild_any (A : Option Addr) (n c : Nat) (l : List Vl) (w : World) (hV : Wd.Vs w A n c l) (hs : ∀ x ∈ l, x.s.size ≤ maxLen) :
    Calls Tryz.prog 35 #[.slice A n c] w (OutC w (build l)) := by
  have hb0 := (Below.refl w.heap.size w).alloc (Nat.le_refl _) (.cells #[.int .i64 0, .slice none 0 0, .slice none 0 0] 57)
  have x0 := Cb.new w 0 none 0 0 none 0 0
  have Hn := Lib.hid hV.len
  have hcap := hV.cap
  have hmx := hV.max
  unfold maxLen at hmx
  have HV := Lib.hid (hV.below hb0)
  have Hb0 := Lib.hid hb0
  have HVw := Lib.hid hV
  have hbx := x0.bx
  by_cases hlong : 4096 < n
  · rw [build_long (by rw [← Hn.out]; exact hlong)]
    have q1 : (4096 : Int) < (n : Int) := by omega
    have Hx := Lib.hid (box3 (x := .int .i64 0) (y := .slice none 0 0) (z := .slice none 0 0) hbx)
    have c0 := x0.c0
    have c1 := x0.c1
    have c2 := x0.c2
    have f0 := hbx.free 0
    have f1 := hbx.free 1
    have f2 := hbx.free 2
    clear hV hb0 hlong hbx x0
    go_enter Tryz.func35, Tryz.ntmps35
    go_wp2_with fail
    refine bodyPost_ret (v := .tuple #[.agg #[.int .i64 0, .slice none 0 0, .slice none 0 0], .int .i64 2]) ?_ rfl ⟨none, 0, 0, none, 0, 0, rfl, Cl.none_ _, Hb0.out⟩
    rw [res_cell2 rfl]; go_simp
  have q1 : ¬ (4096 : Int) < (n : Int) := by omega
  have hn1 : n ≤ 4096 := by omega
  have Hs := Lib.hid hs
  obtain ⟨L, hL⟩ : ∃ L : Nat → List Vl, L = fun k => adds 4096 [] (l.take k) := ⟨_, rfl⟩
  have HL0 := Lib.hid (show L 0 = [] by rw [hL]; rfl)
  have HL1 := Lib.hid (show ∀ k, k < l.length → L (k + 1) = (add (L k) 4096 (l.getD k default)).1 from fun k hk => by rw [hL]; exact adds_next hk)
  have HLn := Lib.hid (show L l.length = adds 4096 [] l by rw [hL]; show adds 4096 [] (l.take l.length) = _; rw [List.take_length])
  have HLd := Lib.hid (show ∀ k, Dis (L k) 4096 from fun k => by rw [hL]; exact dis_adds _ (dis_nil 4096))
  have HLl := Lib.hid (show ∀ k, (L k).length ≤ k from fun k => by
    rw [hL]
    have := adds_len 4096 [] (l.take k)
    simp only [List.length_nil, List.length_take] at this
    show (adds 4096 [] (l.take k)).length ≤ k
    omega)
  have HLs := Lib.hid (show ∀ k, ∀ x ∈ L k, x ∈ l from fun k => by rw [hL]; exact adds_all _ (fun x hx => by cases hx) (fun x hx => List.mem_of_mem_take hx))
  clear hV hb0 hs hL hbx
  go_enter Tryz.func35, Tryz.ntmps35
  go_wp2_with fail
  obtain ⟨wa, hwa⟩ : ∃ wa, wa = w.alloc (.cells #[.int .i64 0, .slice none 0 0, .slice none 0 0] 57) := ⟨_, rfl⟩
  have hsz : wa.heap.size = w.heap.size + 1 := by rw [hwa]; simp
  rw [← hwa] at x0 HV Hb0 ⊢
  clear hwa
  go_loopw [4, 5, 6] (fun v j _ wr => ∃ k : Nat, j = .int .i64 k ∧ k ≤ n ∧ wr.ownsRow wa.heap.size 47 4 v (L k).length (Wd.flatV (L k)) ∧ Hid (∀ j, j < (L k).length → Wd.V1 ((L k).getD j default)) ∧ Hid (∀ j, j < k → May (l.getD j default)) ∧ Below wa.heap.size wa wr) (fun _ j _ _ => n - (intOf j).toNat)
  case atStart => exact ⟨0, rfl, Nat.zero_le _, by rw [HL0.out]; exact World.ownsRow_nil _ _ _ _, Lib.hid (fun j hj => by rw [HL0.out] at hj; cases hj), Lib.hid (fun j hj => by omega), Below.refl _ _⟩
  case round =>
    obtain ⟨k, rfl, hk, hO, h1, hM, hB⟩ := hrel
    by_cases hkn : k < n
    · have hkI : (k : Int) < n := by omega
      have hk0 : (0 : Int) ≤ (k : Int) := by omega
      have hkl : k < l.length := by rw [← Hn.out]; exact hkn
      obtain ⟨e, f, hA, heB, d0, d1, d2, d3, hv1⟩ := (HV.out.below hB).cells (j := k) hkl rfl
      subst hA
      have hLk := HL1.out k hkl
      obtain ⟨y, hy⟩ : ∃ y, y = l.getD k default := ⟨_, rfl⟩
      rw [← hy] at d0 d1 d2 d3 hv1 hLk
      obtain ⟨vk, vi, vs, vb⟩ := y
      have Cm := Lib.hid (Vc.refMay_any vk vi vs vb wr)
      obtain ⟨A4, n4, c4, e4, hS4⟩ := Wd.Vs.of_own hO h1.out
      have Cf := Lib.hid fun w' (hb : Below wr.heap.size wr w') => Dx.refFind_any A4 n4 c4 (L k) vk vi vs vb w' (hS4.below hb)
      have Hy := Lib.hid hy
      have HLk := Lib.hid hLk
      have Hkl := Lib.hid hkl
      have E4 := Lib.hid e4
      subst e4
      have HO := Lib.hid hO
      have HB := Lib.hid hB
      have Hv1 := Lib.hid hv1
      have hsr := hB.size
      clear hy hLk hkl hO hB hv1 hS4
      cases hm : Vc.mayB vk vi vs vb with
      | false =>
        rw [hm] at Cm
        have hnb := Lib.hid (show ¬ ∀ v ∈ l, May v from fun q => by
          have := q (l.getD k default) (by rw [List.getD_eq_getElem?_getD, List.getElem?_eq_getElem Hkl.out]; exact List.getElem_mem Hkl.out)
          rw [← Hy.out] at this
          rw [(Vc.mayB_iff vk vi vs vb).2 this] at hm
          cases hm)
        clear hm
        rw [build_bad (by rw [← Hn.out]; exact hn1) hnb.out]
        go_wp2_with fail
        refine Cm.out.mono ?_
        rintro e w3 ⟨rfl, hB3⟩
        have hb3 := HB.out.trans (hB3.mono hsr)
        have y3 := x0.below (by rw [hsz]; omega) hb3
        have z0 := y3.c0
        have z1 := y3.c1
        have z2 := y3.c2
        have f0 := y3.bx.free 0
        have f1 := y3.bx.free 1
        have f2 := y3.bx.free 2
        have Hb3 := Lib.hid (Hb0.out.trans (hb3.mono Hb0.out.size))
        have Hx3 := Lib.hid (box3 (x := .int .i64 0) (y := .slice none 0 0) (z := .slice none 0 0) y3.bx)
        clear d0 d1 d2 d3 hB3 hb3 y3
        go_wp2_with fail
        have g0 := Hx3.out.cell 0
        have g1 := Hx3.out.cell 1
        have g2 := Hx3.out.cell 2
        refine bodyPost_ret (v := .tuple #[.agg #[.int .i64 0, .slice none 0 0, .slice none 0 0], .int .i64 1]) ?_ rfl ⟨none, 0, 0, none, 0, 0, rfl, Cl.none_ _, ((Hb3.out.setCell (Nat.le_refl _) _).setCell (Nat.le_refl _) _).setCell (Nat.le_refl _) _⟩
        rw [res_cell2 rfl]; go_simp
      | true =>
        rw [hm] at Cm
        have hmay := (Vc.mayB_iff vk vi vs vb).1 hm
        have hM2 := Lib.hid (show ∀ j, j < k + 1 → May (l.getD j default) from fun j hj => by
          by_cases e : j = k
          · rw [e, ← Hy.out]; exact hmay
          · exact hM.out j (by omega))
        obtain ⟨F, hF⟩ : ∃ F, F = fnd (L k) ⟨vk, vi, vs, vb⟩ := ⟨_, rfl⟩
        rw [← hF] at Cf
        have hdk : (L k).length ≤ 1000000 := by have := HLl.out k; omega
        have hlk := HLl.out k
        by_cases hmem : (⟨vk, vi, vs, vb⟩ : Vl) ∈ L k
        · have hF0 : ¬ F < 0 := by have := fnd_pos.2 hmem; omega
          have e2 := Lib.hid (show L (k + 1) = L k by rw [HLk.out, add_old hmay hmem])
          clear hm hmay hF hmem hM
          go_wp2_with fail
          refine Cm.out.mono ?_
          rintro e w3 ⟨rfl, hB3⟩
          have hO3 := Wd.own_below HO.out hB3
          have hb3 := HB.out.trans (hB3.mono hsr)
          have z0 := (hB3.cell (p := ⟨e, f + k * 4, none⟩) heB).trans d0
          have z1 := (hB3.cell (p := ⟨e, f + k * 4 + 1, none⟩) heB).trans d1
          have z2 := (hB3.cell (p := ⟨e, f + k * 4 + 2, none⟩) heB).trans d2
          have z3 := (hB3.cell (p := ⟨e, f + k * 4 + 3, none⟩) heB).trans d3
          have C3 := Lib.hid (Cf.out w3 hB3)
          clear d0 d1 d2 d3 hB3
          go_wp2_with fail
          refine C3.out.mono ?_
          rintro e5 w4 ⟨rfl, hB4⟩
          have hO4 := Wd.own_below hO3 hB4
          have hb4 := hb3.trans (hB4.mono hb3.size)
          have HO4 := Lib.hid hO4
          clear hB4 hO3 hb3 hO4 z0 z1 z2 z3
          go_wp2_with fail
          go_roundw
          case rel => exact ⟨k + 1, by go_num, by omega, by rw [e2.out]; exact HO4.out, Lib.hid (by rw [e2.out]; exact h1.out), hM2, hb4⟩
          case measure => simp [intOf]; omega
        · have hF0 : F < 0 := by
            have := fnd_none hmem
            omega
          have e2 := Lib.hid (show L (k + 1) = L k ++ [⟨vk, vi, vs, vb⟩] by rw [HLk.out, add_new hmay hmem (by unfold lim; simp; omega)])
          clear hm hmay hF hmem hM
          go_wp2_with fail
          refine Cm.out.mono ?_
          rintro e w3 ⟨rfl, hB3⟩
          have hO3 := Wd.own_below HO.out hB3
          have hb3 := HB.out.trans (hB3.mono hsr)
          have z0 := (hB3.cell (p := ⟨e, f + k * 4, none⟩) heB).trans d0
          have z1 := (hB3.cell (p := ⟨e, f + k * 4 + 1, none⟩) heB).trans d1
          have z2 := (hB3.cell (p := ⟨e, f + k * 4 + 2, none⟩) heB).trans d2
          have z3 := (hB3.cell (p := ⟨e, f + k * 4 + 3, none⟩) heB).trans d3
          have heB3 := Nat.lt_of_lt_of_le heB hB3.size
          have C3 := Lib.hid (Cf.out w3 hB3)
          clear d0 d1 d2 d3 hB3
          go_wp2_with fail
          refine C3.out.mono ?_
          rintro e5 w4 ⟨rfl, hB4⟩
          have hO4 := Wd.own_below hO3 hB4
          have hb4 := hb3.trans (hB4.mono hb3.size)
          have d0 := (hB4.cell (p := ⟨e, f + k * 4, none⟩) heB3).trans z0
          have d1 := (hB4.cell (p := ⟨e, f + k * 4 + 1, none⟩) heB3).trans z1
          have d2 := (hB4.cell (p := ⟨e, f + k * 4 + 2, none⟩) heB3).trans z2
          have d3 := (hB4.cell (p := ⟨e, f + k * 4 + 3, none⟩) heB3).trans z3
          have hA5 := hb4.alloc hb4.size (.cells #[.int .i64 vk, .int .i64 vi, .string vs, .bool vb] 47)
          have hO5 := hO4.alloc (.cells #[.int .i64 vk, .int .i64 vi, .string vs, .bool vb] 47)
          have hz5 := hA5.size
          have hcv := Wd.vals_new w4 ⟨vk, vi, vs, vb⟩ _ rfl
          clear hB4 hO3 hb3 z0 z1 z2 z3
          go_wp2_with (at_builtin; refine Wd.wpList_appV1 _ rfl (.tmp 38) (.tmp 43) rfl wa.heap.size _ (L k) rfl hO5 _ ⟨vk, vi, vs, vb⟩ rfl hcv hdk hz5 ?_; intro v6 w6 hO6 hg6; have hb6 : Below wa.heap.size wa w6 := hA5.grown hg6 hz5 fun g hg => (hO5.lt g hg).1)
          go_roundw
          case rel =>
            refine ⟨k + 1, by go_num, by omega, by rw [e2.out]; exact hO6, Lib.hid ?_, hM2, hb6⟩
            rw [e2.out]
            exact Sx.v1_app h1.out Hv1.out
          case measure => simp [intOf]; omega
    · have hkI : ¬ (k : Int) < n := by omega
      have hall := Lib.hid (show ∀ v ∈ l, May v from fun v hv => by
        obtain ⟨i, hi, e⟩ := List.getElem_of_mem hv
        have := hM.out i (by rw [← Hn.out] at hi; omega)
        rw [List.getD_eq_getElem?_getD, List.getElem?_eq_getElem hi, Option.getD_some, e] at this
        exact this)
      have hll := Lib.hid (show l.length ≤ 4096 by rw [← Hn.out]; exact hn1)
      obtain ⟨A4, n4, c4, e4, hS4⟩ := Wd.Vs.of_own hO h1.out
      obtain rfl : k = n := by omega
      have hLk := HLn.out
      rw [← Hn.out] at hLk
      have hd4 := dct_dis (l := l)
      have Cs := Dx.refSorted_any A4 n4 c4 (L k) wr hS4 (fun x hx => Hs.out x (HLs.out k x hx)) (HLd.out k).may (HLd.out k).nd (by rw [hS4.len]; have := HLl.out k; omega)
      rw [hLk] at Cs
      have HCs := Lib.hid (show Calls Tryz.prog 72 #[.slice A4 n4 c4] wr (Dx.OutS wr (dct l) (tos (adds 4096 [] l))) from Cs)
      have HB := Lib.hid hB
      have hsr := hB.size
      have Hd5 := Lib.hid (show (dct l).length ≤ 4096 by have := dct_len (l := l); have := hll.out; omega)
      subst e4
      clear Cs hO h1 hM hB hLk hd4 hS4
      go_wp2_with fail
      refine HCs.out.mono ?_
      rintro e w5 ⟨A5, n5, c5, A6, n6, c6, rfl, hS5, -, hB5⟩
      have hb5 := HB.out.trans (hB5.mono hsr)
      have hs5 := hb5.size
      have Hb5 := Lib.hid hb5
      have h5l := hS5.len
      have hn5 : n5 ≤ 4096 := by rw [h5l]; exact Hd5.out
      have h5c := hS5.cap
      have h5m := hS5.max
      unfold maxLen at h5m
      have H5l := Lib.hid h5l
      have HS5 := Lib.hid hS5
      have HV5 := Lib.hid (HV.out.below hb5)
      have y5 := x0.below (by rw [hsz]; omega) hb5
      have hlt5 := y5.lt
      obtain ⟨T, hT⟩ : ∃ T : Nat → List Int, T = fun k => (ids l).take k := ⟨_, rfl⟩
      have HT0 := Lib.hid (show T 0 = [] by rw [hT]; rfl)
      have HT1 := Lib.hid (show ∀ k, k < l.length → T (k + 1) = T k ++ [fnd (dct l) (l.getD k default)] from fun k hk => by
        rw [hT]
        show (ids l).take (k + 1) = (ids l).take k ++ _
        rw [List.take_succ_eq_append_getElem (by rw [ids_len]; exact hk)]
        unfold ids
        rw [List.getElem_map, List.getD_eq_getElem?_getD, List.getElem?_eq_getElem hk]
        rfl)
      have HTn := Lib.hid (show T l.length = ids l by rw [hT]; show (ids l).take l.length = _; rw [← ids_len, List.take_length])
      have HTl := Lib.hid (show ∀ k, (T k).length ≤ k from fun k => by rw [hT]; show ((ids l).take k).length ≤ k; simp; omega)
      clear hS5 hB5 hb5 h5l hT HCs
      go_wp2_with fail
      go_loopw [9, 10] (fun v j wr => ∃ q : Nat, j = .int .i64 q ∧ q ≤ k ∧ Rw wr w5.heap.size v (T q) ∧ Below w5.heap.size w5 wr) (fun _ j _ => k - (intOf j).toNat)
      case atStart => exact ⟨0, rfl, Nat.zero_le _, by rw [HT0.out]; exact Rw.nil _ _, Below.refl _ _⟩
      case round =>
        obtain ⟨q, rfl, hq, hO, hB⟩ := hrel
        by_cases hqk : q < k
        · have hqI : (q : Int) < k := by omega
          have hq0 : (0 : Int) ≤ (q : Int) := by omega
          have hql : q < l.length := by rw [← Hn.out]; exact hqk
          obtain ⟨e, f, hA, heB, d0, d1, d2, d3, hv1⟩ := (HV5.out.below hB).cells (j := q) hql rfl
          subst hA
          have hTq := HT1.out q hql
          obtain ⟨y, hy⟩ : ∃ y, y = l.getD q default := ⟨_, rfl⟩
          rw [← hy] at d0 d1 d2 d3 hTq
          obtain ⟨vk, vi, vs, vb⟩ := y
          have Cf := Dx.refFind_any A5 n5 c5 (dct l) vk vi vs vb wr (HS5.out.below hB)
          obtain ⟨F, hF⟩ : ∃ F, F = fnd (dct l) ⟨vk, vi, vs, vb⟩ := ⟨_, rfl⟩
          rw [← hF] at Cf hTq
          have HTq := Lib.hid hTq
          have HCf := Lib.hid Cf
          have hdk : (T q).length ≤ 1000000 := by have := HTl.out q; omega
          have HO := Lib.hid hO
          have HB := Lib.hid hB
          have hsr := hB.size
          clear hy hTq hF Cf hv1 hql hO hB
          go_wp2_with fail
          refine HCf.out.mono ?_
          rintro e5 w7 ⟨rfl, hB7⟩
          have hb7 := HB.out.trans (hB7.mono hsr)
          have HO7 := Lib.hid (show Rw w7 w5.heap.size u9 (T q) from Wd.own_below HO.out hB7)
          clear hB7 d0 d1 d2 d3
          go_wp2_with (at_builtin; refine Bx.wpList_app w5 rfl (.tmp 56) (.tmp 63) rfl w7 u9 (T q) rfl HO7.out F rfl hdk hb7 ?_; intro v8 w8 hO8 hB8)
          go_roundw
          case rel => exact ⟨q + 1, by go_num, by omega, by rw [HTq.out]; exact hO8, hB8⟩
          case measure => simp [intOf]; omega
        · have hqI : ¬ (q : Int) < k := by omega
          obtain rfl : q = k := by omega
          have hTn := HTn.out
          rw [← Hn.out] at hTn
          rw [hTn] at hO
          obtain ⟨A7, n7, c7, rfl, hS7⟩ := Wd.Sl.of_own hO
          have hfit : Wd.Fits .i64 (ids l) := fun x hx => by
            have h1 := ids_lt hll.out hall.out x hx
            have h2 := Hd5.out
            simp [Lit.wf, IntKind.min, IntKind.max, IntKind.signed, IntKind.bits]
            omega
          have Cw := Lib.hid (width_any n5 (by omega) wr)
          have e3 : Bc.wid ((n5 : Int) - 1) = wdt (dct l) := by rw [H5l.out]; rfl
          rw [e3] at Cw
          have Cp := Lib.hid (Bc.refPack_any A7 n7 c7 (wdt (dct l)) (ids l) wr hS7 hfit)
          obtain ⟨W, hW⟩ : ∃ W, W = wdt (dct l) := ⟨_, rfl⟩
          obtain ⟨pl, hpl⟩ : ∃ pl, pl = Bc.packL (ids l) (wdt (dct l)) := ⟨_, rfl⟩
          obtain ⟨pe, hpe⟩ : ∃ pe, pe = Bc.packE (ids l) (wdt (dct l)) := ⟨_, rfl⟩
          rw [← hpl, ← hpe] at Cp
          rw [← hW] at Cw Cp
          have Hpl := Lib.hid hpl
          have y7 := y5.below hlt5 hB
          have hlt7 := y7.lt
          have Hbr := Lib.hid (Hb5.out.trans (hB.mono hs5))
          have hsr := Nat.le_trans hs5 hB.size
          have HS5r := Lib.hid (HS5.out.below hB)
          clear hO hS7 hfit e3 hW hpl hpe hB hTn
          go_wp2_with (first
            | (go_at_call 74; refine Cw.out.mono ?_; rintro e8 w8 ⟨rfl, rfl⟩)
            | (go_at_call 73; refine Cp.out.mono ?_; rintro e8 w8 ⟨A8, n8, c8, rfl, hS8, hB8⟩; have y8 := y7.below hlt7 hB8; have z0 := y8.c0; have z1 := y8.c1; have z2 := y8.c2; have f0 := y8.bx.free 0; have f1 := y8.bx.free 1; have f2 := y8.bx.free 2))
          have Hx8 := Lib.hid (box3 (x := .int .i64 (q : Int)) (y := .slice A5 n5 c5) (z := .slice A8 n8 c8) y8.bx)
          have g0 := Hx8.out.cell 0
          have g1 := Hx8.out.cell 1
          have g2 := Hx8.out.cell 2
          have hb8 := Hb0.out.trans ((Hbr.out.trans (hB8.mono hsr)).mono Hb0.out.size)
          have hV8 := HS5r.out.below hB8
          have hnv := vs_ne y8 hV8
          have hns := sl_ne y8 hS8
          refine bodyPost_ret (v := .tuple #[.agg #[.int .i64 (q : Int), .slice A5 n5 c5, .slice A8 n8 c8], .int .i64 0]) ?_ rfl ⟨A5, n5, c5, A8, n8, c8, ?_, ⟨?_, ?_, ?_, ?_, ?_, ?_⟩, ((hb8.setCell (Nat.le_refl _) _).setCell (Nat.le_refl _) _).setCell (Nat.le_refl _) _⟩
          · rw [res_cell2 rfl]; go_simp
          · rw [build_ok hll.out hall.out, ← Hn.out]
          · rw [build_ok hll.out hall.out]
            exact vs_store (vs_store (vs_store hV8 hnv _ _) hnv _ _) hnv _ _
          · rw [build_ok hll.out hall.out, ← Hpl.out]
            exact sl_store (sl_store (sl_store hS8 hns _ _) hns _ _) hns _ _
          · rw [build_ok hll.out hall.out]
            exact Bc.packL_byt _ _
          · rw [build_ok hll.out hall.out]
            show -9223372036854775808 ≤ (l.length : Int)
            omega
          · rw [build_ok hll.out hall.out]
            have := hll.out
            show (l.length : Int) ≤ 9223372036854775807
            omega
          · rw [build_ok hll.out hall.out]
            intro x hx
            exact Hs.out x ((dct_mem hll.out hall.out x).1 hx)
end Cx
namespace Cx
open Va (Vl May ord null)
open Sc (tr tr_yes tr_no tr_iff)
open Co
open Bi (I64)
theorem valL {C : Col} {A : Option Addr} {n c : Nat} {w : World} (h : Wd.Vs w A n c C.dict) : ∀ j, j < (values C).length → Wd.V1 ((values C).getD j default) := by
  intro j hj
  rw [values_len] at hj
  have hx : (nums C).getD j 0 ∈ nums C := by
    rw [List.getD_eq_getElem?_getD, List.getElem?_eq_getElem hj]
    exact List.getElem_mem hj
  obtain ⟨_, h0, h1⟩ := nums_in hx
  have e : (values C).getD j default = C.dict.getD ((nums C).getD j 0).toNat default := by
    unfold values
    rw [List.getD_eq_getElem?_getD, List.getElem?_map, List.getElem?_eq_getElem hj, Option.map_some, Option.getD_some]
    rw [List.getD_eq_getElem?_getD (l := nums C), List.getElem?_eq_getElem hj, Option.getD_some]
  rw [e]
  obtain ⟨_, _, _, _, _, h2⟩ := h.at_ _ (show ((nums C).getD j 0).toNat < C.dict.length by omega)
  exact h2
def OutVo (w : World) (l : List Vl) (e : Ending) (w' : World) : Prop :=
  ∃ v, e = .returned v ∧ w'.ownsRow w.heap.size 47 4 v l.length (Wd.flatV l) ∧ (∀ j, j < l.length → Wd.V1 (l.getD j default)) ∧ Below w.heap.size w w'
theorem own_row {w : World} {base g n : Nat} {l : List Vl} (h : Wd.RowV w g l) (hb : base ≤ g) (hn : n = l.length) (hm : n ≤ maxLen) : w.ownsRow base 47 4 (.slice (some ⟨g, 0, none⟩) n n) l.length (Wd.flatV l) := by
  subst hn
  exact ⟨(Wd.flatV_len l), .inr ⟨g, _, _, rfl, hb, h, Nat.le_refl _, hm, by simp [Wd.flatV_len], by rw [List.take_of_length_le (by simp [Wd.flatV_len])]⟩⟩
set_option maxHeartbeats 8000000 in
theorem values_own (A : Option Addr) (n c : Nat) (B : Option Addr) (m d : Nat) (C : Col) (w : World) (h : Cl w A n c B m d C) (hn : n ≤ 1000) (hm : m ≤ 1000000) :
    Calls Tryz.prog 187 #[.agg #[.int .i64 C.n, .slice A n c, .slice B m d]] w (OutVo w (values C)) := by
  obtain ⟨j0, hj, gz0, gz1, gz2⟩ := info_parts Wd.info_vl
  have hb0 := (Below.refl w.heap.size w).alloc (Nat.le_refl _) (.cells #[.int .i64 C.n, .slice A n c, .slice B m d] 57)
  have x0 := Cb.new w C.n A n c B m d
  have C1 := Lib.hid (unpack_any A n c B m d C _ (h.below hb0) hn hm)
  have hcap := h.dict.cap
  have hmx := h.dict.max
  unfold maxLen at hmx
  have HD := Lib.hid h.dict
  have Hn := Lib.hid h.dict.len
  have Hb0 := Lib.hid hb0
  have H1 := Lib.hid (valL h.dict)
  obtain ⟨L, hL⟩ : ∃ L, L = nums C := ⟨_, rfl⟩
  obtain ⟨T, hT⟩ : ∃ T, T = values C := ⟨_, rfl⟩
  have Hin := Lib.hid (show ∀ x ∈ L, 0 ≤ x ∧ x < (n : Int) from fun x hx => by
    rw [hL] at hx
    have := nums_in hx
    rw [h.dict.len]
    exact this.2)
  have Hll := Lib.hid (show L.length ≤ 4096 by rw [hL]; exact nums_4096 C)
  have HTl := Lib.hid (show T.length = L.length by rw [hT, hL]; exact values_len C)
  have HTk := Lib.hid (show ∀ k, k < L.length → T.getD k default = C.dict.getD (L.getD k 0).toNat default from fun k hk => by
    rw [hT]
    rw [hL] at hk ⊢
    unfold values
    rw [List.getD_eq_getElem?_getD, List.getElem?_map, List.getElem?_eq_getElem hk, Option.map_some, Option.getD_some]
    rw [List.getD_eq_getElem?_getD (l := nums C), List.getElem?_eq_getElem hk, Option.getD_some])
  have HT0 := Lib.hid (show ¬ Valid C → T = [] from fun q => by rw [hT]; exact values_no q)
  rw [← hL] at C1
  rw [← hT] at H1 ⊢
  have h4 := Hll.out
  obtain ⟨N, hN⟩ : ∃ N, N = C.n := ⟨_, rfl⟩
  rw [← hN] at x0 C1 Hb0 ⊢
  obtain ⟨r, hr⟩ : ∃ r, r = tr (Valid C) := ⟨_, rfl⟩
  rw [← hr] at C1
  have Hr := Lib.hid hr
  clear h hb0 hL hT hN hr
  have c0 := x0.c0
  have c1 := x0.c1
  have c2 := x0.c2
  go_enter Tryz.func187, Tryz.ntmps187
  go_wp2_with fail
  refine C1.out.mono ?_
  rintro e w1 ⟨P, p, q, rfl, hSl, hB1⟩
  have y0 := x0.below (by simp) hB1
  have hb1 := Hb0.out.trans (hB1.mono (by simp))
  have hlt1 := y0.lt
  have hpl := hSl.len
  have hpc := hSl.cap
  have hpm := hSl.max
  unfold maxLen at hpm
  have hp1 : p ≤ 4096 := by omega
  have Hpl := Lib.hid hpl
  have HSl := Lib.hid hSl
  have HD1 := Lib.hid (HD.out.below hb1)
  have Hb1 := Lib.hid hb1
  have Hz1 := Lib.hid hb1.size
  clear c0 c1 c2 x0 hB1 C1 hpl hSl hb1 h4 HD
  cases r with
  | false =>
    have e0 := HT0.out (fun q => by have := Hr.out; rw [tr_yes q] at this; cases this)
    have HE := Lib.hid e0
    clear e0
    go_wp2_with fail
    go_ret
    exact ⟨_, rfl, by rw [HE.out]; exact World.ownsRow_nil _ _ _ _, by rw [HE.out]; exact fun j hj => (by cases hj), Hb1.out⟩
  | true =>
  go_wp2_with (at_make; refine wpList_make_full _ rfl (.tmp 16) (.tmp 16) 48 rfl w1.heap.size 47 j0 _ 4 Tryz.underlying48 hj gz0 gz1 .i64 .i64 (p : Int) (p : Int) p rfl rfl rfl rfl (by rw [gz2]; omega) (by unfold maxLen; omega) (Nat.le_refl _) ?_; intro w3 hown hgrow; rw [Wd.made_null] at hown)
  obtain ⟨hR0, -, -⟩ := Wd.RowV.of_own hown
  have hB3 : Below w1.heap.size w1 w3 := (Below.refl _ _).grown hgrow (Nat.le_refl _) (by simp)
  have hR1 : Wd.RowV w3 w1.heap.size (fillV T 0) := by rw [fillV_zero, HTl.out, ← Hpl.out]; exact hR0
  have I0 := Lib.hid (And.intro hR1 hB3)
  clear hown hgrow hB3 hR0 hR1
  go_loopw [20] (fun j wr => ∃ k : Nat, j = .int .i64 k ∧ k ≤ p ∧ Wd.RowV wr w1.heap.size (fillV T k) ∧ Below w1.heap.size w1 wr) (fun j _ => p - (intOf j).toNat)
  case atStart => exact ⟨0, rfl, Nat.zero_le _, I0.out.1, I0.out.2⟩
  case round =>
    obtain ⟨k, rfl, hk, hR, hB⟩ := hrel
    by_cases hkp : k < p
    · have hkI : (k : Int) < p := by omega
      have hk0 : (0 : Int) ≤ (k : Int) := by omega
      have hkL : k < L.length := by rw [← Hpl.out]; exact hkp
      obtain ⟨b, o, hP, hbl, hc⟩ := (HSl.out.below hB).rd k hkL
      subst hP
      obtain ⟨x, hx⟩ : ∃ x, x = L.getD k 0 := ⟨_, rfl⟩
      have hxm : x ∈ L := by
        rw [hx, List.getD_eq_getElem?_getD, List.getElem?_eq_getElem hkL]
        exact List.getElem_mem hkL
      obtain ⟨hx0, hxn⟩ := Hin.out x hxm
      have hT := HTk.out k hkL
      rw [← hx] at hc hT
      obtain ⟨z, hz⟩ : ∃ z : Nat, x = (z : Int) := ⟨x.toNat, by omega⟩
      subst hz
      rw [Int.toNat_natCast] at hT
      have hzn : z < C.dict.length := by rw [← Hn.out]; omega
      have HDr := HD1.out.below hB
      obtain ⟨e, f, hA, heB, d0, d1, d2, d3, hv1⟩ := HDr.cells (j := z) hzn rfl
      subst hA
      obtain ⟨y, hy⟩ : ∃ y, y = C.dict.getD z default := ⟨_, rfl⟩
      rw [← hy] at d0 d1 d2 d3 hT
      obtain ⟨vk, vi, vs, vb⟩ := y
      have HT := Lib.hid hT
      have hc1 := (y0.below hlt1 hB).c1
      have hkT : k < (fillV T k).length := by rw [fillV_len, HTl.out]; exact hkL
      obtain ⟨u, ⟨u0, u1, u2, u3⟩, v0, v1, v2, v3⟩ := hR.four hkT
      have HR := Lib.hid hR
      have hzl := hR.lt
      have HB := Lib.hid hB
      have HkT := Lib.hid hkT
      have HkL := Lib.hid hkL
      clear hx hxm hT hzn hy HDr hv1 hR hB hkT hkL
      go_wp2_with fail
      go_roundw
      case rel =>
        refine ⟨k + 1, by go_num, by omega, ?_, ?_⟩
        · have e5 := fillV_set T k (by rw [HTl.out]; exact HkL.out)
          rw [HT.out] at e5
          rw [← e5]
          exact HR.out.set k HkT.out ⟨vk, vi, vs, vb⟩
        · exact (((HB.out.setCell (Nat.le_refl _) _).setCell (Nat.le_refl _) _).setCell (Nat.le_refl _) _).setCell (Nat.le_refl _) _
      case measure => simp [intOf]; omega
    · have hkI : ¬ (k : Int) < p := by omega
      obtain rfl : k = p := by omega
      have e2 : fillV T k = T := by rw [Hpl.out, ← HTl.out]; exact fillV_all T
      rw [e2] at hR
      have HR := Lib.hid hR
      have HB := Lib.hid (Hb1.out.trans (hB.mono Hb1.out.size))
      have HL := Lib.hid (show k = T.length by rw [HTl.out]; exact Hpl.out)
      clear hR hB e2
      go_wp2_with fail
      go_ret
      exact ⟨_, rfl, own_row HR.out Hz1.out HL.out (by unfold maxLen; omega), H1.out, HB.out⟩
end Cx
namespace Se
open Va (Vl May null)
open Sc (Sch tr tr_yes tr_no tr_iff tr_congr)
open Wd (Cr)
open Co (values nums)
def Lt (os : List Cr) : Prop := ∀ j, j < os.length → (os.getD j default).n ≤ 1000 ∧ (os.getD j default).m ≤ 1000000
noncomputable def cells (os : List Cr) (i : Int) : List Vl := os.map fun o => (values o.C).getD i.toNat default
theorem row_cells {x : Seg} {os : List Cr} {i : Int} (he : x.cols = Wd.cols os) (h : Has x i) : row x i = cells os i := by
  rw [row_yes h, he, Wd.cols, List.map_map]
  rfl
theorem has_iff {x : Seg} {os : List Cr} {i : Int} (he : x.cols = Wd.cols os) : Has x i ↔ (0 ≤ i ∧ i < (x.offs.length : Int)) ∧ ∀ k, k < os.length → i < ((values (os.getD k default).C).length : Int) := by
  unfold Has
  rw [he]
  constructor
  · rintro ⟨h1, h2, h3⟩
    refine ⟨⟨h1, h2⟩, fun k hk => h3 _ ?_⟩
    unfold Wd.cols
    refine List.mem_map.2 ⟨os.getD k default, ?_, rfl⟩
    rw [List.getD_eq_getElem?_getD, List.getElem?_eq_getElem hk]
    exact List.getElem_mem hk
  · rintro ⟨⟨h1, h2⟩, h3⟩
    refine ⟨h1, h2, fun c hc => ?_⟩
    unfold Wd.cols at hc
    obtain ⟨o, ho, rfl⟩ := List.mem_map.1 hc
    obtain ⟨k, hk, rfl⟩ := List.getElem_of_mem ho
    have := h3 k hk
    simpa [List.getD, List.getElem?_eq_getElem hk] using this
theorem mixv {T V : List Vl} {i : Nat} (hi : i < T.length) (hl : V.length = T.length) (h : V.take i = T.take i) : (V.set i (T.getD i default)).take (i + 1) = T.take (i + 1) := by
  rw [List.take_succ_eq_append_getElem (by simp; omega), List.take_succ_eq_append_getElem hi, List.take_set_of_le (Nat.le_refl _), h]
  simp [List.getD, List.getElem?_eq_getElem hi]
end Se
end Go.Proofs.YtaoeipehpakngaaGreatDoor
