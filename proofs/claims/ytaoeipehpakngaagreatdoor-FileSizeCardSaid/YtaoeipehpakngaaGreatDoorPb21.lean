/- Package seal: the table of all rows (read). Package seal: Rows, by a method value of the table. -/
import Derived.Lib.Hide
import Derived.Deep.RegionHeld3
import Derived.Test.YtaoeipehpakngaaGreatDoorPb20
namespace Go.Proofs.YtaoeipehpakngaaGreatDoor
set_option maxRecDepth 20000
open Go.RowKit
namespace Wd
open Va (Vl)
def Hw (w : World) (vs : List Value) (ys : List (List Vl)) : Prop :=
  vs.length = ys.length ∧ ∀ j, j < ys.length → w.ownsRow 0 47 4 (vs.getD j undef) (ys.getD j []).length (flatV (ys.getD j [])) ∧ ∀ i, i < (ys.getD j []).length → V1 ((ys.getD j []).getD i default)
theorem Hw.nil (w : World) : Hw w [] [] := ⟨rfl, fun _ h => by simp at h⟩
theorem Hw.keep {w w' : World} {vs : List Value} {ys : List (List Vl)} (h : Hw w vs ys) (hk : ∀ (x : Nat) (cur : Array Value), w.heap[x]? = some (Obj.cells cur 47 (0, 0)) → w'.heap[x]? = w.heap[x]?) : Hw w' vs ys :=
  ⟨h.1, fun j hj => ⟨own_keep (h.2 j hj).1 fun x hx => by
    obtain ⟨_, _, cur, hc⟩ := own_lt (h.2 j hj).1 hx
    exact hk x cur hc, (h.2 j hj).2⟩⟩
theorem Hw.below {w w' : World} {vs : List Value} {ys : List (List Vl)} (h : Hw w vs ys) (hb : Below w.heap.size w w') : Hw w' vs ys := h.keep fun _ _ hx => hb.block _ (lt_of_block hx)
theorem Hw.set {w : World} {vs : List Value} {ys : List (List Vl)} {g : Nat} {t : TypeId} {cs : Array Value} (h : Hw w vs ys) (hb : Bx w g t cs) (hne : t ≠ 47) (i : Nat) (u : Value) : Hw (w.setCell ⟨g, i, none⟩ u) vs ys :=
  h.keep fun x cur hx => Below.heap_setCell _ _ _ _ fun e => by
    have e' : x = g := e
    subst e'
    unfold Bx at hb
    rw [hb] at hx
    simp only [Option.some.injEq, Obj.cells.injEq] at hx
    exact hne hx.2.1
theorem Hw.grown {w w' : World} {vs : List Value} {ys : List (List Vl)} {base n size : Nat} {e : TypeId} {v : Value} {xs : List Value} (h : Hw w vs ys) (hr : w.ownsRow base e size v n xs) (hne : e ≠ 47) (hg : w.grownBy w' v.ownBlock) : Hw w' vs ys :=
  h.keep fun x cur hx => hg.block x (lt_of_block hx) fun e1 => by
    obtain ⟨_, _, cur', hc⟩ := own_lt hr e1.symm
    rw [hx] at hc
    simp only [Option.some.injEq, Obj.cells.injEq] at hc
    exact hne hc.2.1.symm
theorem Hw.snoc {w : World} {vs : List Value} {ys : List (List Vl)} {v : Value} {y : List Vl} {B : Nat} (h : Hw w vs ys) (hv : w.ownsRow B 47 4 v y.length (flatV y)) (h1 : ∀ i, i < y.length → V1 (y.getD i default)) : Hw w (vs ++ [v]) (ys ++ [y]) := by
  refine ⟨by simp [h.1], fun j hj => ?_⟩
  simp only [List.length_append, List.length_cons, List.length_nil] at hj
  by_cases q : j < ys.length
  · rw [getD_app_left (by rw [h.1]; exact q), getD_app_left q]
    exact h.2 j q
  · obtain rfl : j = ys.length := by omega
    have e1 : (vs ++ [v]).getD ys.length undef = v := by rw [← h.1]; exact getD_app_at _ _
    rw [e1, getD_app_at]
    exact ⟨own_down hv (Nat.zero_le _), h1⟩
theorem Hw.hv {w : World} {vs : List Value} {ys : List (List Vl)} (h : Hw w vs ys) : Hv w vs ys :=
  ⟨h.1, fun j hj => by
    obtain ⟨A, n, c, e, hV⟩ := Vs.of_own (h.2 j hj).1 (h.2 j hj).2
    exact ⟨A, n, c, e, hV⟩⟩
theorem own_shape1 {w : World} {base n : Nat} {e : TypeId} {v : Value} {xs : List Value} (h : w.ownsRow base e 1 v n xs) : ∃ A c, v = .slice A n c := by
  rcases h.2 with ⟨rfl, rfl⟩ | ⟨g, cap, cur, rfl, _⟩
  · exact ⟨_, _, rfl⟩
  · exact ⟨_, _, rfl⟩
theorem own_shape4 {w : World} {base n : Nat} {e : TypeId} {v : Value} {xs : List Value} (h : w.ownsRow base e 4 v n xs) : ∃ A c, v = .slice A n c := by
  rcases h.2 with ⟨rfl, rfl⟩ | ⟨g, cap, cur, rfl, _⟩
  · exact ⟨_, _, rfl⟩
  · exact ⟨_, _, rfl⟩
theorem info_vs : (Tryz.prog.info? 48).map (fun i => (i.zero, i.size, i.bytes)) = some (some (.slice none 0 0), 1, 24) := by kernel_rfl
end Wd
namespace Se
open Va (Vl May null)
open Sc (Sch tr tr_yes tr_no tr_iff tr_congr)
open Wd (Cr)
open Co (values)
noncomputable def tabs (os : List Cr) : List (List Vl) := os.map fun o => values o.C
theorem tabs_len (os : List Cr) : (tabs os).length = os.length := by simp [tabs]
theorem tabs_get {os : List Cr} {k : Nat} (h : k < os.length) : (tabs os).getD k [] = values (os.getD k default).C := by
  unfold tabs
  rw [List.getD_eq_getElem?_getD, List.getElem?_map, List.getElem?_eq_getElem h, List.getD_eq_getElem?_getD, List.getElem?_eq_getElem h]
  rfl
theorem tabs_take {os : List Cr} {k : Nat} (h : k < os.length) : (tabs os).take (k + 1) = (tabs os).take k ++ [values (os.getD k default).C] := by
  rw [List.take_succ_eq_append_getElem (by rw [tabs_len]; exact h)]
  congr 2
  have := tabs_get h
  rw [← this]
  simp [List.getD, tabs_len, h]
def Hgt (on : Nat) (os : List Cr) (k : Nat) (h : Int) : Prop := 0 ≤ h ∧ h ≤ (on : Int) ∧ ∀ i : Int, i < h ↔ i < (on : Int) ∧ ∀ j, j < k → i < ((values (os.getD j default).C).length : Int)
theorem hgt_next {on : Nat} {os : List Cr} {k : Nat} {h : Int} (H : Hgt on os k h) : Hgt on os (k + 1) (min h ((values (os.getD k default).C).length : Int)) := by
  obtain ⟨h0, h1, h2⟩ := H
  refine ⟨by omega, by omega, fun i => ?_⟩
  constructor
  · intro hi
    have hi' := (h2 i).1 (by omega)
    refine ⟨hi'.1, fun j hj => ?_⟩
    by_cases q : j = k
    · rw [q]; omega
    · exact hi'.2 j (by omega)
  · rintro ⟨q1, q2⟩
    have a := (h2 i).2 ⟨q1, fun j hj => q2 j (by omega)⟩
    have b := q2 k (by omega)
    omega
def OutT (w : World) (cn on : Nat) (os : List Cr) (e : Ending) (w' : World) : Prop :=
  ∃ V c h, e = .returned (.agg #[.slice V cn c, .int .i64 h]) ∧ Wd.Ls w' V cn c (tabs os) ∧ Hgt on os os.length h ∧ Below w.heap.size w w'
structure TI (w0 w : World) (p on k : Nat) (os : List Cr) : Prop where
  ex : ∃ V c h vs, Wd.Bx w p 177 #[.slice V k c, .int .i64 h] ∧ w.ownsRow w0.heap.size 48 1 (.slice V k c) k vs ∧ Wd.Hw w vs ((tabs os).take k) ∧ Hgt on os k h
  p0 : w0.heap.size ≤ p
  bel : Below w0.heap.size w0 w
theorem TI.below {w0 w w' : World} {p on k : Nat} {os : List Cr} (I : TI w0 w p on k os) (hb : Below w.heap.size w w') : TI w0 w' p on k os := by
  obtain ⟨⟨V, c, h, vs, h1, h2, h4, h5⟩, h6, h7⟩ := I
  exact ⟨⟨V, c, h, vs, h1.below h1.lt hb, Wd.own_below h2 hb, h4.below hb, h5⟩, h6, h7.trans (hb.mono h7.size)⟩
set_option maxHeartbeats 8000000 in
theorem read_any (OA : Option Addr) (on oc : Nat) (CA : Option Addr) (cn cc : Nat) (os : List Cr) (x : Seg) (w : World) (hX : Sg w OA on oc CA cn cc os x) (hlt : Lt os) (hcn : cn ≤ 1000000) :
    Calls Tryz.prog 136 #[.agg #[.int .i64 x.part, .int .i64 x.id, .int .i64 x.st, .int .i64 x.en, .slice OA on oc, .slice CA cn cc]] w (OutT w cn on os) := by
  obtain ⟨i0, hi, gz0, gz1, gz2⟩ := info_parts Wd.info_vs
  obtain ⟨w1, hw1⟩ : ∃ w1, w1 = ((w.alloc (.cells #[.int .i64 x.part, .int .i64 x.id, .int .i64 x.st, .int .i64 x.en, .slice OA on oc, .slice CA cn cc] 28)).alloc (.cells #[.slice none 0 0, .int .i64 0] 177)).alloc (.cells #[.slice none 0 0, .int .i64 (on : Int)] 177) := ⟨_, rfl⟩
  have z1 : (w.alloc (.cells #[.int .i64 x.part, .int .i64 x.id, .int .i64 x.st, .int .i64 x.en, .slice OA on oc, .slice CA cn cc] 28)).heap.size = w.heap.size + 1 := by simp
  have z2 : ((w.alloc (.cells #[.int .i64 x.part, .int .i64 x.id, .int .i64 x.st, .int .i64 x.en, .slice OA on oc, .slice CA cn cc] 28)).alloc (.cells #[.slice none 0 0, .int .i64 0] 177)).heap.size = w.heap.size + 1 + 1 := by simp
  have x1 : Gb w1 w.heap.size x.part x.id x.st x.en OA on oc CA cn cc := by rw [hw1]; exact ((Gb.new _ _ _ _ _ _ _ _ _ _ _).alloc _).alloc _
  have r1 : Wd.Bx w1 (w.heap.size + 1) 177 #[.slice none 0 0, .int .i64 0] := by
    have := Wd.Bx.new (w.alloc (.cells #[.int .i64 x.part, .int .i64 x.id, .int .i64 x.st, .int .i64 x.en, .slice OA on oc, .slice CA cn cc] 28)) 177 #[.slice none 0 0, .int .i64 0]
    rw [z1] at this
    rw [hw1]
    exact this.alloc _
  have b1 : Wd.Bx w1 (w.heap.size + 1 + 1) 177 #[.slice none 0 0, .int .i64 (on : Int)] := by
    have := Wd.Bx.new ((w.alloc (.cells #[.int .i64 x.part, .int .i64 x.id, .int .i64 x.st, .int .i64 x.en, .slice OA on oc, .slice CA cn cc] 28)).alloc (.cells #[.slice none 0 0, .int .i64 0] 177)) 177 #[.slice none 0 0, .int .i64 (on : Int)]
    rw [z2] at this
    rw [hw1]
    exact this
  have hb1 : Below w.heap.size w w1 := by rw [hw1]; exact (((Below.refl _ _).alloc (Nat.le_refl _) _).alloc (by simp) _).alloc (by simp; omega) _
  have hon := hX.offs.len
  have hoc := hX.offs.cap
  have hox := hX.offs.max
  unfold maxLen at hox
  have I1 : TI w w1 (w.heap.size + 1 + 1) on 0 os := ⟨⟨none, 0, on, [], b1, World.ownsRow_nil _ _ _ _, by simpa using Wd.Hw.nil _, by omega, by omega, fun i => ⟨fun z => ⟨z, fun j hj => by omega⟩, fun z => z.1⟩⟩, by omega, hb1⟩
  obtain ⟨d0, d1, d2, d3, d4, d5⟩ := x1.six
  have HX := Lib.hid hX
  have Hcn := Lib.hid hX.cols.len
  have Hx1 := Lib.hid x1
  have Hr1 := Lib.hid r1
  have HI1 := Lib.hid I1
  have Hw1 := Lib.hid hw1
  have hz1 : w.heap.size + 1 + 1 < w1.heap.size := b1.lt
  have Hb1 := Lib.hid hb1
  clear hw1 z1 z2 x1 r1 b1 hb1 I1 hX hon
  go_enter Tryz.func136, Tryz.ntmps136
  go_upto_region 2 with fail
  rw [← Hw1.out]
  go_wp2_with fail
  go_loopw [14] (fun j wr => ∃ k : Nat, j = .int .i64 k ∧ k ≤ cn ∧ Hid (TI w wr (w.heap.size + 1 + 1) on k os ∧ Wd.Bx wr (w.heap.size + 1) 177 #[.slice none 0 0, .int .i64 0])) (fun j _ => cn - (intOf j).toNat)
  case atStart => exact ⟨0, rfl, Nat.zero_le _, Lib.hid ⟨HI1.out, Hr1.out⟩⟩
  case round =>
    clear d0 d1 d2 d3 d4 d5
    obtain ⟨k, rfl, hk, hI⟩ := hrel
    by_cases hltk : k < cn
    · have hkI : (k : Int) < (cn : Int) := by omega
      have hko : k < os.length := by rw [← Hcn.out]; exact hltk
      obtain ⟨b, f, hA, _, c0, c1, c2, h1⟩ := (HX.out.cols.below hI.out.1.bel).cells hko rfl
      subst hA
      have hsz := hlt k hko
      have htk := Lib.hid (tabs_take hko)
      obtain ⟨o, ho⟩ : ∃ o, o = os.getD k default := ⟨_, rfl⟩
      rw [← ho] at c0 c1 c2 h1 hsz htk
      have hal := (Below.refl wr.heap.size wr).alloc (Nat.le_refl _) (.cells #[.int .i64 o.C.n, .slice o.A o.n o.c, .slice o.B o.m o.d] 57)
      have bx := Cx.Cb.new wr o.C.n o.A o.n o.c o.B o.m o.d
      have Cv := Lib.hid (Cx.values_own o.A o.n o.c o.B o.m o.d o.C _ (h1.below hal) hsz.1 hsz.2)
      obtain ⟨b0, b1, b2⟩ := And.intro bx.c0 (And.intro bx.c1 bx.c2)
      have Hal := Lib.hid hal
      have Ho := Lib.hid ho
      clear hal bx h1 hsz ho hko
      go_wp2_with fail
      refine Cv.out.mono ?_
      rintro e w5 ⟨v5, rfl, hO5, hV5, hB5⟩
      obtain ⟨A5, c5, rfl⟩ := Wd.own_shape4 hO5
      have hB5' := Hal.out.trans (hB5.mono Hal.out.size)
      have I5 := hI.out.1.below hB5'
      have r5 := hI.out.2.below hI.out.2.lt hB5'
      obtain ⟨⟨V, c, h, vs, hbx, hown, hw, hg⟩, hp0, hbel⟩ := I5
      obtain ⟨n5, hn5⟩ : ∃ n5, n5 = (values o.C).length := ⟨_, rfl⟩
      have hg2 := hgt_next hg
      rw [← Ho.out, ← hn5] at hg2
      have hg01 := And.intro hg.1 hg.2.1
      have hn4 : n5 ≤ 4096 := by rw [hn5]; exact Nat.le_trans (Nat.le_of_eq (Co.values_len _)) (Co.nums_4096 _)
      have t0 := hbx.cell 0
      have hO5' : w5.ownsRow 0 47 4 (.slice A5 n5 c5) (values o.C).length (Wd.flatV (values o.C)) := by rw [hn5]; exact Wd.own_down hO5 (Nat.zero_le _)
      have hO6 := hO5'.alloc (.cells #[.slice A5 n5 c5] 48)
      have hown6 := hown.alloc (.cells #[.slice A5 n5 c5] 48)
      have hbx6 := hbx.alloc (.cells #[.slice A5 n5 c5] 48)
      have r6 := r5.alloc (.cells #[.slice A5 n5 c5] 48)
      have hw6 := hw.below ((Below.refl w5.heap.size w5).alloc (Nat.le_refl _) (.cells #[.slice A5 n5 c5] 48))
      have hbel6 := hbel.alloc hbel.size (.cells #[.slice A5 n5 c5] 48)
      have hnew := (Wd.Bx.new w5 48 #[.slice A5 n5 c5]).cell 0
      have H6 := Lib.hid (And.intro hO6 (And.intro hw6 (And.intro hV5 hg2)))
      have HN5 := Lib.hid hn5
      have hzB := hbel6.size
      obtain ⟨mn, hmn⟩ : ∃ mn, mn = (if (n5 : Int) < h then (n5 : Int) else h) := ⟨_, rfl⟩
      have Hmn := Lib.hid hmn
      have Hmin := Lib.hid (show mn = min h (n5 : Int) by rw [hmn]; split <;> omega)
      have Hgm := Lib.hid (show Hgt on os (k + 1) mn by
        rw [hmn, show (if (n5 : Int) < h then (n5 : Int) else h) = min h (n5 : Int) by split <;> omega]
        exact hg2)
      rw [← hn5]
      clear hO5 hO5' hV5 hB5 hB5' hI hbx hown hw hg hg2 hn5 hO6 hw6 Cv b0 b1 b2 c0 c1 c2 hbel hmn Hal r5
      go_wp2_with (at_builtin; refine Wd.wpList_app1v _ rfl (.tmp 21) (.tmp 23) 49 rfl w.heap.size 48 i0 _ 24 Tryz.underlying49 hi gz0 gz1 gz2 rfl (.slice V k c) k vs rfl hown6 ⟨w5.heap.size, 0, none⟩ (.slice A5 n5 c5) rfl hnew rfl rfl (by unfold maxLen; omega) (by omega) hzB ?_; intro v7 w7 hown7 hgrow7; obtain ⟨A7, c7, rfl⟩ := Wd.own_shape1 hown7; have hbx7 := hbx6.grown hgrow7 (hbx6.apart hown6 (by decide)); have t7 := hbx7.cell 0; have f7 := hbx7.free 0; have hbx8 := hbx7.set 0 (.slice A7 (k + 1) c7); have t8 : (w7.setCell ⟨w.heap.size + 1 + 1, 0, none⟩ (.slice A7 (k + 1) c7)).cell? ⟨w.heap.size + 1 + 1, 1, none⟩ = some (.int .i64 h) := hbx8.cell 1; have f8 := hbx8.free 1)
      first | rw [← Hmn.out] | rw [← Hmin.out]
      have own_pt : ∀ {wq : World} {v : Value} {q : Nat} {xs : List Value} {g i : Nat} {cs : Array Value} {u : Value}, wq.ownsRow w.heap.size 48 1 v q xs → Wd.Bx wq g 177 cs → (wq.setCell ⟨g, i, none⟩ u).ownsRow w.heap.size 48 1 v q xs := fun {wq v q xs g i cs u} h1 h2 =>
        Wd.own_keep h1 fun y hy => Below.heap_setCell _ _ _ _ fun e => h2.apart h1 (by decide) (by rw [hy]; exact congrArg some (show g = y from (show y = g from e).symm))
      have hw8 := (((H6.out.2.1.snoc H6.out.1 H6.out.2.2.1).grown hown6 (by decide) hgrow7).set hbx7 (by decide) 0 (.slice A7 (k + 1) c7)).set hbx8 (by decide) 1 (.int .i64 mn)
      rw [← htk.out] at hw8
      have I9 := Lib.hid (show TI w ((w7.setCell ⟨w.heap.size + 1 + 1, 0, none⟩ (.slice A7 (k + 1) c7)).setCell ⟨w.heap.size + 1 + 1, 1, none⟩ (.int .i64 mn)) (w.heap.size + 1 + 1) on (k + 1) os from
        ⟨⟨A7, c7, mn, _, by simpa using hbx8.set 1 (.int .i64 mn), own_pt (own_pt hown7 hbx7) hbx8, hw8, Hgm.out⟩, by omega,
          ((hbel6.grown hgrow7 hzB fun g hg => (hown6.lt g hg).1).setCell (p := ⟨w.heap.size + 1 + 1, 0, none⟩) (show w.heap.size ≤ w.heap.size + 1 + 1 by omega) _).setCell (p := ⟨w.heap.size + 1 + 1, 1, none⟩) (show w.heap.size ≤ w.heap.size + 1 + 1 by omega) _⟩)
      have R9 := Lib.hid (((r6.grown hgrow7 (r6.apart hown6 (by decide))).other (a := ⟨w.heap.size + 1 + 1, 0, none⟩) (show w.heap.size + 1 ≠ w.heap.size + 1 + 1 by omega) (.slice A7 (k + 1) c7)).other (a := ⟨w.heap.size + 1 + 1, 1, none⟩) (show w.heap.size + 1 ≠ w.heap.size + 1 + 1 by omega) (.int .i64 mn))
      refine ⟨⟨k + 1, by go_num, by omega, Lib.hid ⟨I9.out, R9.out⟩⟩, by simp [intOf]; omega⟩
    · have hkI : ¬ (k : Int) < (cn : Int) := by omega
      obtain rfl : k = cn := by omega
      obtain ⟨⟨V, c, h, vs, hbx, hown, hw, hg⟩, hp0, hbel⟩ := hI.out.1
      have hr := hI.out.2
      have hbx' := hbx
      have t0 := hbx.cell 0
      have t1 := hbx.cell 1
      have r0 := hr.cell 0
      have r1 := hr.cell 1
      have f0 := hr.free 0
      have f1 := hr.free 1
      have hr1 := hr.set 0 (.slice V k c)
      have hr2 := hr1.set 1 (.int .i64 h)
      have own_pt : ∀ {wq : World} {v : Value} {q : Nat} {xs : List Value} {g i : Nat} {cs : Array Value} {u : Value}, wq.ownsRow w.heap.size 48 1 v q xs → Wd.Bx wq g 177 cs → (wq.setCell ⟨g, i, none⟩ u).ownsRow w.heap.size 48 1 v q xs := fun {wq v q xs g i cs u} h1 h2 =>
        Wd.own_keep h1 fun y hy => Below.heap_setCell _ _ _ _ fun e => h2.apart h1 (by decide) (by rw [hy]; exact congrArg some (show g = y from (show y = g from e).symm))
      have hown2 := own_pt (i := 1) (u := .int .i64 h) (own_pt (i := 0) (u := .slice V k c) hown hr) hr1
      have hw2 := ((hw.set hr (by decide) 0 (.slice V k c)).set hr1 (by decide) 1 (.int .i64 h))
      rw [List.take_of_length_le (by rw [tabs_len, Hcn.out]; exact Nat.le_refl _)] at hw2
      obtain ⟨V', c', e1, hLs⟩ := Wd.Ls.of_own hown2 hw2.hv
      cases e1
      have HL := Lib.hid (And.intro hLs ((hbel.setCell (p := ⟨w.heap.size + 1, 0, none⟩) (show w.heap.size ≤ w.heap.size + 1 by omega) (.slice V k c)).setCell (p := ⟨w.heap.size + 1, 1, none⟩) (show w.heap.size ≤ w.heap.size + 1 by omega) (.int .i64 h)))
      have HG := Lib.hid (show Hgt on os os.length h by rw [← Hcn.out]; exact hg)
      have HR2 := Lib.hid (by simpa using hr2 : Wd.Bx ((wr.setCell ⟨w.heap.size + 1, 0, none⟩ (.slice V k c)).setCell ⟨w.heap.size + 1, 1, none⟩ (.int .i64 h)) (w.heap.size + 1) 177 #[.slice V k c, .int .i64 h])
      clear hLs hw2 hown2 hr1 hr2 hw hown hbx hbx' hr hI hg hbel own_pt
      go_wp2_with fail
      have g0 := HR2.out.cell 0
      have g1 := HR2.out.cell 1
      refine bodyPost_ret (v := .agg #[.slice V k c, .int .i64 h]) ?_ rfl ⟨V, c, h, rfl, HL.out.1, HG.out, HL.out.2⟩
      rw [Vc.res_cell1 rfl]; go_simp
end Se
namespace Se
open Va (Vl May null)
open Sc (Sch tr tr_yes tr_no tr_iff tr_congr)
open Wd (Cr)
open Co (values)
def trow (ys : List (List Vl)) (h i : Int) : List Vl := if i < h then ys.map fun y => y.getD i.toNat default else []
set_option maxHeartbeats 8000000 in
theorem trow_any (V : Option Addr) (tn tc : Nat) (ys : List (List Vl)) (h i : Int) (w : World) (hL : Wd.Ls w V tn tc ys) (hi0 : 0 ≤ i) (hi1 : i ≤ 1000000000) (hb : i < h → ∀ j, j < ys.length → i < ((ys.getD j []).length : Int)) (htn : tn ≤ 1000000) :
    Calls Tryz.prog 137 #[.agg #[.slice V tn tc, .int .i64 h], .int .i64 i] w (Cx.OutV w (trow ys h i)) := by
  obtain ⟨j0, hj, gz0, gz1, gz2⟩ := info_parts Wd.info_vl
  obtain ⟨zv, hzv⟩ : ∃ zv : Array Value, zv = (Wd.flatV (List.replicate tn null)).toArray := ⟨_, rfl⟩
  have hmv : ∀ X : World, (Instr.makeSlice 48 (.int .i64 (tn : Int)) (.int .i64 (tn : Int))).run Tryz.prog X = .ok (.slice (some ⟨X.heap.size, 0, none⟩) tn tn) (X.alloc (.cells zv 47)) := fun X => by
    have := run_make (P := Tryz.prog) X 48 47 j0 _ Tryz.underlying48 hj gz0 .i64 .i64 (tn : Int) (tn : Int) (by omega) (by omega) (by rw [gz2]; omega) (by omega)
    rw [this, hzv, gz1, Int.toNat_natCast, ← Wd.made_null]
  obtain ⟨w1, hw1⟩ : ∃ w1, w1 = w.alloc (.cells #[.slice V tn tc, .int .i64 h] 177) := ⟨_, rfl⟩
  have hz := Lib.hid (show w1.heap.size = w.heap.size + 1 by rw [hw1]; simp)
  have hb1 : Below w.heap.size w w1 := by rw [hw1]; exact (Below.refl _ _).alloc (Nat.le_refl _) _
  have x1 : Wd.Bx w1 w.heap.size 177 #[.slice V tn tc, .int .i64 h] := by rw [hw1]; exact Wd.Bx.new _ _ _
  have rowv : Wd.RowV (w1.alloc (.cells zv 47)) w1.heap.size (List.replicate tn null) := by rw [hzv]; exact Wd.Bx.new w1 _ _
  have d0 := x1.cell 0
  have d1 := x1.cell 1
  have e0 := (x1.alloc (.cells zv 47)).cell 0
  have Htn := Lib.hid hL.len
  have HL := Lib.hid hL
  have Hb1 := Lib.hid hb1
  have Hw1 := Lib.hid hw1
  have hcap := hL.cap
  have hmx := hL.max
  unfold maxLen at hmx
  have I0 := Lib.hid (And.intro rowv ((Below.refl w1.heap.size w1).alloc (Nat.le_refl _) (.cells zv 47)))
  have hzl : w.heap.size < w1.heap.size := x1.lt
  have HB := Lib.hid hb
  clear hw1 hL x1 hb1 hzv rowv hb
  go_enter Tryz.func137, Tryz.ntmps137
  by_cases hih : h ≤ i
  · have t2 := Lib.hid (show trow ys h i = [] by unfold trow; rw [if_neg (by omega)])
    go_upto_region 1 with fail
    rw [← Hw1.out]
    go_wp2_with fail
    go_ret
    exact ⟨none, 0, 0, rfl, by rw [t2.out]; exact Wd.Vs.none_ _, Hb1.out⟩
  · obtain ⟨T, hT⟩ : ∃ T, T = trow ys h i := ⟨_, rfl⟩
    have hTl : T.length = tn := by rw [hT, trow, if_pos (by omega), List.length_map, ← Htn.out]
    have hTk : ∀ k, k < ys.length → T.getD k default = (ys.getD k []).getD i.toNat default := fun k hk => by
      rw [hT, trow, if_pos (by omega), List.getD_eq_getElem?_getD, List.getElem?_map, List.getElem?_eq_getElem hk, List.getD_eq_getElem?_getD (l := ys), List.getElem?_eq_getElem hk]
      rfl
    rw [← hT]
    have HTl := Lib.hid hTl
    have HTk := Lib.hid hTk
    obtain ⟨I, hI⟩ : ∃ I : Nat, i = (I : Int) := ⟨i.toNat, by omega⟩
    subst hI
    clear hT hTl hTk
    go_upto_region 1 with fail
    rw [← Hw1.out]
    go_wp2_with fail
    clear d0 d1 e0 hmv
    generalize w1.alloc (.cells zv 47) = w2 at *
    go_loopw [19] (fun j wr => ∃ (k : Nat) (vs : List Vl), j = .int .i64 k ∧ k ≤ tn ∧ Hid (Wd.RowV wr w1.heap.size vs ∧ vs.length = tn ∧ vs.take k = T.take k ∧ Below w1.heap.size w1 wr)) (fun j _ => tn - (intOf j).toNat)
    case atStart => exact ⟨0, _, rfl, Nat.zero_le _, Lib.hid ⟨I0.out.1, by simp, by simp, I0.out.2⟩⟩
    case round =>
      clear I0
      obtain ⟨k, vs, rfl, hk, hR⟩ := hrel
      by_cases hlt : k < tn
      · have hkI : (k : Int) < (tn : Int) := by omega
        have hko : k < ys.length := by rw [← Htn.out]; exact hlt
        have hbw : Below w.heap.size w wr := Hb1.out.trans (hR.out.2.2.2.mono Hb1.out.size)
        obtain ⟨b, f, A', n', c', hA, _, c0, hV⟩ := (HL.out.below hbw).at_ k hko
        have hIl := HB.out (by omega) k hko
        have hTv := HTk.out k hko
        have hn' := hV.len
        obtain ⟨b2, f2, hA2, _, e0, e1, e2, e3, _⟩ := hV.cells (j := I) (by omega) rfl
        subst hA hA2
        rw [Int.toNat_natCast] at hTv
        have In : (I : Int) < (n' : Int) := by omega
        obtain ⟨v, hv⟩ : ∃ v, v = (ys.getD k []).getD I default := ⟨_, rfl⟩
        rw [← hv] at e0 e1 e2 e3 hTv
        have hkv : k < vs.length := by rw [hR.out.2.1]; exact hlt
        obtain ⟨y, ⟨y0, y1, y2, y3⟩, g0, g1, g2, g3⟩ := hR.out.1.four hkv
        have hset := hR.out.1.set k hkv v
        have htk := mixv (T := T) (V := vs) (i := k) (by rw [HTl.out]; exact hlt) (by rw [HTl.out, hR.out.2.1]) hR.out.2.2.1
        rw [hTv] at htk
        have hB5 := (((hR.out.2.2.2.setCell (p := ⟨w1.heap.size, k * 4, none⟩) (Nat.le_refl _) (.int .i64 v.kind)).setCell (p := ⟨w1.heap.size, k * 4 + 1, none⟩) (Nat.le_refl _) (.int .i64 v.i)).setCell (p := ⟨w1.heap.size, k * 4 + 2, none⟩) (Nat.le_refl _) (.string v.s)).setCell (p := ⟨w1.heap.size, k * 4 + 3, none⟩) (Nat.le_refl _) (.bool v.b)
        have H5 := Lib.hid (And.intro hset (And.intro (show (vs.set k v).length = tn by simp [hR.out.2.1]) (And.intro htk hB5)))
        clear hset htk hB5 hR hV hn' hIl hTv hv hkv hbw hko
        go_wp2_with fail
        go_roundw
        case rel => exact ⟨k + 1, vs.set k v, by go_num, by omega, H5⟩
        case measure => simp [intOf]; omega
      · have hkI : ¬ (k : Int) < (tn : Int) := by omega
        obtain rfl : k = tn := by omega
        have hvs : vs = T := by
          have := hR.out.2.2.1
          rw [List.take_of_length_le (by rw [hR.out.2.1]; exact Nat.le_refl _), List.take_of_length_le (by rw [HTl.out]; exact Nat.le_refl _)] at this
          exact this
        have hbw : Below w.heap.size w wr := Hb1.out.trans (hR.out.2.2.2.mono Hb1.out.size)
        have hV := hR.out.1.vs k hR.out.2.1.symm (by unfold maxLen; omega) fun j hj => by
          rw [hR.out.2.1] at hj
          have hjo : j < ys.length := by rw [← Htn.out]; exact hj
          rw [hvs, HTk.out j hjo, Int.toNat_natCast]
          obtain ⟨_, _, _, _, _, _, _, _, hV⟩ := (HL.out.below hbw).at_ j hjo
          have := HB.out (by omega) j hjo
          obtain ⟨_, _, _, _, _, z⟩ := hV.at_ I (by omega)
          exact z
        have H := Lib.hid (And.intro hV hbw)
        have T2 := Lib.hid hvs
        clear hV hbw hvs hR
        go_wp2_with fail
        go_ret
        exact ⟨_, _, _, rfl, by rw [← T2.out]; exact H.out.1, H.out.2⟩
theorem hv_rep (w : World) (n : Nat) : Wd.Hv w (List.replicate n (.slice none 0 0)) (List.replicate n []) :=
  ⟨by simp, fun j hj => by
    rw [List.length_replicate] at hj
    exact ⟨none, 0, 0, by simp [List.getD, hj], by simpa [List.getD, hj] using Wd.Vs.none_ w⟩⟩
theorem made_sl (n : Nat) : (madeCells (Value.slice none 0 0).cells (n * 1)).toList = List.replicate n (Value.slice none 0 0) := by
  refine List.ext_getElem (by simp [madeCells]) fun i h1 h2 => ?_
  simp [madeCells, Value.cells, Nat.mod_one]
theorem hv_store {w : World} {g : Nat} {t : TypeId} {vs : List Value} {ys : List (List Vl)} {A : Option Addr} {n c : Nat} {y : List Vl} {k : Nat} (hb : Wd.Bx w g t vs.toArray) (h : Wd.Hv w vs ys) (hv : Wd.Vs w A n c y) :
    Wd.Bx (w.setCell ⟨g, k, none⟩ (.slice A n c)) g t (vs.set k (.slice A n c)).toArray ∧ Wd.Hv (w.setCell ⟨g, k, none⟩ (.slice A n c)) (vs.set k (.slice A n c)) (ys.set k y) := by
  have hs : ∀ v ∈ vs, ∀ x, v ≠ .string x := fun v hv' x => by
    obtain ⟨j, hj, rfl⟩ := List.getElem_of_mem hv'
    obtain ⟨A', n', c', e, _⟩ := h.2 j (by rw [← h.1]; exact hj)
    rw [List.getD_eq_getElem?_getD, List.getElem?_eq_getElem hj, Option.getD_some] at e
    rw [e]
    simp
  have m := (Wd.Mv.refl (fun x => x = g) w).set (G := fun x => x = g) (a := ⟨g, k, none⟩) rfl (.slice A n c)
  refine ⟨by simpa using hb.set k (.slice A n c), Wd.Hv.set ⟨h.1, fun j hj => ?_⟩ k (hv.keep m fun a ha hn => hv.apart hb hs a ha hn)⟩
  obtain ⟨A', n', c', e, hV⟩ := h.2 j hj
  exact ⟨A', n', c', e, hV.keep m fun a ha hn => hV.apart hb hs a ha hn⟩
def OutL (w : World) (l : List (List Vl)) (e : Ending) (w' : World) : Prop :=
  ∃ A n c, e = .returned (.slice A n c) ∧ Wd.Ls w' A n c l ∧ Below w.heap.size w w'
theorem mixl {T V : List (List Vl)} {i : Nat} (hi : i < T.length) (hl : V.length = T.length) (h : V.take i = T.take i) : (V.set i (T.getD i [])).take (i + 1) = T.take (i + 1) := by
  rw [List.take_succ_eq_append_getElem (by simp; omega), List.take_succ_eq_append_getElem hi, List.take_set_of_le (Nat.le_refl _), h]
  simp [List.getD, List.getElem?_eq_getElem hi]
set_option maxHeartbeats 4000000 in
theorem produce_any (N : Nat) (v : Value) (T : List (List Vl)) (w : World) (hT : T.length = N) (hN : N ≤ 1000000)
    (C : ∀ W (j : Nat), Below w.heap.size w W → j < N → Calls Tryz.prog 137 #[v, .int .i64 (j : Int)] W (Cx.OutV W (T.getD j []))) :
    Calls Tryz.prog 135 #[.int .i64 (N : Int), .func (.func 137) #[v] #[]] w (OutL w T) := by
  obtain ⟨j0, hj, gz0, gz1, gz2⟩ := info_parts Wd.info_vs
  obtain ⟨zv, hzv⟩ : ∃ zv : Array Value, zv = (List.replicate N (Value.slice none 0 0)).toArray := ⟨_, rfl⟩
  have hmv : ∀ X : World, (Instr.makeSlice 49 (.int .i64 (N : Int)) (.int .i64 (N : Int))).run Tryz.prog X = .ok (.slice (some ⟨X.heap.size, 0, none⟩) N N) (X.alloc (.cells zv 48)) := fun X => by
    have := run_make (P := Tryz.prog) X 49 48 j0 _ Tryz.underlying49 hj gz0 .i64 .i64 (N : Int) (N : Int) (by omega) (by omega) (by rw [gz2]; omega) (by omega)
    rw [this, hzv, gz1, Int.toNat_natCast, ← made_sl]
  have rowv : Wd.Bx (w.alloc (.cells zv 48)) w.heap.size 48 (List.replicate N (Value.slice none 0 0)).toArray := by rw [hzv]; exact Wd.Bx.new w _ _
  have I0 := Lib.hid (And.intro rowv (And.intro (hv_rep (w.alloc (.cells zv 48)) N) ((Below.refl w.heap.size w).alloc (Nat.le_refl _) (.cells zv 48))))
  have HC := Lib.hid C
  have HT := Lib.hid hT
  clear C hT hzv rowv
  go_enter Tryz.func135, Tryz.ntmps135
  go_wp2_with fail
  clear hmv
  generalize w.alloc (.cells zv 48) = w2 at *
  go_loopw [11] (fun j wr => ∃ (k : Nat) (vs : List Value) (ys : List (List Vl)), j = .int .i64 k ∧ k ≤ N ∧ Hid (Wd.Bx wr w.heap.size 48 vs.toArray ∧ Wd.Hv wr vs ys ∧ ys.length = N ∧ ys.take k = T.take k ∧ Below w.heap.size w wr)) (fun j _ => N - (intOf j).toNat)
  case atStart => exact ⟨0, _, _, rfl, Nat.zero_le _, Lib.hid ⟨I0.out.1, I0.out.2.1, by simp, by simp, I0.out.2.2⟩⟩
  case round =>
    clear I0
    obtain ⟨k, vs, ys, rfl, hk, hR⟩ := hrel
    by_cases hlt : k < N
    · have hkI : (k : Int) < (N : Int) := by omega
      have Ck := Lib.hid (HC.out wr k hR.out.2.2.2.2 hlt)
      go_wp2_with fail
      refine Ck.out.mono ?_
      rintro e w5 ⟨A5, n5, c5, rfl, hV5, hB5⟩
      have hbx5 := hR.out.1.below hR.out.1.lt hB5
      have hv5 := hR.out.2.1.below hB5
      have hb5 := hR.out.2.2.2.2.trans (hB5.mono hR.out.2.2.2.2.size)
      have hkv : k < vs.length := by rw [hR.out.2.1.1, hR.out.2.2.1]; exact hlt
      have hc5 := hbx5.cell k
      rw [List.getElem?_toArray, List.getElem?_eq_getElem hkv] at hc5
      have hf5 := hbx5.free k
      obtain ⟨q1, q2⟩ := hv_store (k := k) hbx5 hv5 hV5
      have hmx := mixl (T := T) (V := ys) (i := k) (by rw [HT.out]; exact hlt) (by rw [HT.out, hR.out.2.2.1]) hR.out.2.2.2.1
      have R6 := Lib.hid (And.intro q1 (And.intro q2 (And.intro (show (ys.set k (T.getD k [])).length = N by simp [hR.out.2.2.1]) (And.intro hmx (hb5.setCell (p := ⟨w.heap.size, k, none⟩) (Nat.le_refl _) (.slice A5 n5 c5))))))
      generalize vs[k] = u at hc5
      clear q1 q2 hmx hbx5 hv5 hb5 hkv hR Ck hV5 hB5
      go_wp2_with fail
      go_roundw
      case rel => exact ⟨k + 1, _, _, by go_num, by omega, R6⟩
      case measure => simp [intOf]; omega
    · have hkI : ¬ (k : Int) < (N : Int) := by omega
      obtain rfl : k = N := by omega
      have hys : ys = T := by
        have := hR.out.2.2.2.1
        rw [List.take_of_length_le (by rw [hR.out.2.2.1]; exact Nat.le_refl _), List.take_of_length_le (by rw [HT.out]; exact Nat.le_refl _)] at this
        exact this
      have hL := Wd.Ls.of_bx hR.out.1 hR.out.2.1 k hR.out.2.2.1.symm (by unfold maxLen; omega)
      rw [hys] at hL
      have H := Lib.hid (And.intro hL hR.out.2.2.2.2)
      clear hL hys hR
      go_wp2_with fail
      go_ret
      exact ⟨_, _, _, rfl, H.out.1, H.out.2⟩
theorem rows_eq {on : Nat} {os : List Cr} {x : Seg} {h : Int} (he : x.cols = Wd.cols os) (hon : on = x.offs.length) (H : Hgt on os os.length h) {j : Nat} (hj : j < on) : trow (tabs os) h (j : Int) = row x (j : Int) := by
  have hh := H.2.2 (j : Int)
  by_cases q : (j : Int) < h
  · have h1 := hh.1 q
    have hx : Has x (j : Int) := (has_iff he).2 ⟨⟨by omega, by omega⟩, h1.2⟩
    rw [row_cells he hx, trow, if_pos q, tabs, List.map_map, cells]
    rfl
  · have hx : ¬ Has x (j : Int) := fun z => q (hh.2 ⟨by omega, ((has_iff he).1 z).2⟩)
    rw [row_no hx, trow, if_neg q]
set_option maxHeartbeats 4000000 in
theorem rows_any (OA : Option Addr) (on oc : Nat) (CA : Option Addr) (cn cc : Nat) (os : List Cr) (x : Seg) (w : World) (hX : Sg w OA on oc CA cn cc os x) (hlt : Lt os) (hcn : cn ≤ 1000000) (hon : on ≤ 1000000) :
    Calls Tryz.prog 88 #[.agg #[.int .i64 x.part, .int .i64 x.id, .int .i64 x.st, .int .i64 x.en, .slice OA on oc, .slice CA cn cc]] w (OutL w (rows x)) := by
  have x1 : Gb (w.alloc (.cells #[.int .i64 x.part, .int .i64 x.id, .int .i64 x.st, .int .i64 x.en, .slice OA on oc, .slice CA cn cc] 28)) w.heap.size x.part x.id x.st x.en OA on oc CA cn cc := Gb.new _ _ _ _ _ _ _ _ _ _ _
  have hb1 : Below w.heap.size w (w.alloc (.cells #[.int .i64 x.part, .int .i64 x.id, .int .i64 x.st, .int .i64 x.en, .slice OA on oc, .slice CA cn cc] 28)) := (Below.refl _ _).alloc (Nat.le_refl _) _
  have hz1 : w.heap.size + 1 ≤ (w.alloc (.cells #[.int .i64 x.part, .int .i64 x.id, .int .i64 x.st, .int .i64 x.en, .slice OA on oc, .slice CA cn cc] 28)).heap.size := by simp
  have HX := Lib.hid hX
  obtain ⟨w1, hw1⟩ : ∃ w1, w1 = w.alloc (.cells #[.int .i64 x.part, .int .i64 x.id, .int .i64 x.st, .int .i64 x.en, .slice OA on oc, .slice CA cn cc] 28) := ⟨_, rfl⟩
  rw [← hw1] at x1 hb1 hz1
  have Cr := Lib.hid (fun W (hb : Below w.heap.size w W) => read_any OA on oc CA cn cc os x W (hX.below hb) hlt hcn)
  have Hon := Lib.hid hX.offs.len
  have Hcn := Lib.hid hX.cols.len
  have hbl := hb1
  have hrl : (rows x).length = on := by rw [rows_len]; exact hX.offs.len.symm
  have Cp := Lib.hid (fun (V : Option Addr) (tc : Nat) (h : Int) (W : World) (hL : Wd.Ls W V cn tc (tabs os)) (hh : Hgt on os os.length h) => produce_any on (.agg #[.slice V cn tc, .int .i64 h]) (rows x) W hrl hon fun W' j hb hj => by
    have := trow_any V cn tc (tabs os) h (j : Int) W' (hL.below hb) (by omega) (by omega) (fun q i hi => by
      rw [tabs_len] at hi
      rw [tabs_get hi]
      exact ((hh.2.2 (j : Int)).1 q).2 i hi) hcn
    rw [rows_eq hX.eq hX.offs.len hh hj, ← rows_get (by rw [← hX.offs.len]; exact hj)] at this
    exact this)
  have z10 := Gb.six (w := w1.drew) (Wd.Bx.drew x1)
  have Hw1 := Lib.hid hw1
  have HB1 := Lib.hid hb1
  have X1 := Lib.hid x1
  clear x1 hw1 hX hrl
  go_enter Tryz.func88, Tryz.ntmps88
  go_upto_region 1 with fail
  rw [← Hw1.out]
  go_region_held3 (fun w' => w'.cell? ⟨w.heap.size, 0, none⟩ = some (.int .i64 x.part) ∧ w'.cell? ⟨w.heap.size, 1, none⟩ = some (.int .i64 x.id) ∧ w'.cell? ⟨w.heap.size, 2, none⟩ = some (.int .i64 x.st) ∧ w'.cell? ⟨w.heap.size, 3, none⟩ = some (.int .i64 x.en) ∧ w'.cell? ⟨w.heap.size, 4, none⟩ = some (.slice OA on oc) ∧ w'.cell? ⟨w.heap.size, 5, none⟩ = some (.slice CA cn cc)) (with_reducible first | exact z10) (first
    | (go_at_call 136; (with_reducible refine (Cr.out _ hb1.drew).mono ?_); rintro e w2 ⟨V, tc, h, rfl, hL2, hh2, hB2⟩; have hb2 : Below w1.heap.size w1 w2 := Wd.of_drew hB2; have z10 := Gb.six (X1.out.below X1.out.lt hb2))
    | (go_at_call 135; (with_reducible refine (Cp.out V tc h _ hL2 hh2).mono ?_); rintro e w3 ⟨A3, n3, c3, rfl, hL3, hB3⟩; have z10 := Gb.six (X1.out.below X1.out.lt (hb2.trans (hB3.mono hb2.size)))))
  all_goals (
    have H3 := Lib.hid (And.intro hL3 (HB1.out.trans ((hb2.trans (hB3.mono hb2.size)).mono HB1.out.size)))
    clear hL3 hB3 hb2 hL2 hh2 hB2
    go_wp2_with fail
    go_ret
    exact ⟨_, _, _, rfl, H3.out.1, H3.out.2⟩)
end Se
end Go.Proofs.YtaoeipehpakngaaGreatDoor
