/- Package seal: columns. Package seal: arrange, Order. -/
import Derived.Deep.DeepCutAuto
import Derived.Lib.Hide
import Derived.Test.YtoibpbnebcoafaaGreatPk11
import Derived.Test.YtoibpbnebcoafaaGreatPk20
import Derived.Test.YtoibpbnebcoafaaGreatPk35
import Derived.Test.YtoibpbnebcoafaaGreatPk23
namespace Go.Proofs.YtoibpbnebcoafaaGreat
set_option maxRecDepth 20000
open Go.RowKit
namespace Se
open Va (Vl May null)
open Sc (Sch tr tr_yes tr_no)
open Ssm (ns)
open Wd (Cr)
open Co (build)
theorem may_sz {v : Vl} (h : May v) : v.s.size ≤ maxLen := by
  unfold maxLen
  rcases h with ⟨_, _, h, _⟩ | ⟨_, h, _⟩ | ⟨_, _, h, _⟩ | ⟨_, _, h⟩
  · rw [h]; decide
  · rw [h]; decide
  · omega
  · rw [h]; decide
/-- N columns of the rows in the given order, and no error. -/
def OutCs (w : World) (N : Nat) (l : List (List Vl)) (o : List Nat) (e : Ending) (w' : World) : Prop :=
  ∃ A c os, e = .returned (.tuple #[.slice A N c, .int .i64 0]) ∧ Wd.Cms w' A N c os ∧ Wd.cols os = colsOf N l o ∧ Below w.heap.size w w' ∧ ∀ a, A = some a → w.heap.size ≤ a.block
/-- What holds between two columns: k of them are built. -/
structure ColI (w0 w : World) (g h N on k : Nat) (l : List (List Vl)) (o : List Nat) : Prop where
  ex : ∃ L : List Cr, L.length = N ∧ Wd.Bx w g 70 (Wd.flatC L).toArray ∧ ∀ j, j < k → Kept w g h (L.getD j default) ∧ (L.getD j default).C = (build (pick l o j)).1
  val : ∃ vs : List Vl, vs.length = on ∧ Wd.RowV w h vs
  ne : g ≠ h
  gg : w0.heap.size ≤ g
  hh : w0.heap.size ≤ h
  bel : Below w0.heap.size w0 w
theorem ColI.below {w0 w w' : World} {g h N on k : Nat} {l : List (List Vl)} {o : List Nat} (I : ColI w0 w g h N on k l o) (hb : Below w.heap.size w w') : ColI w0 w' g h N on k l o := by
  obtain ⟨⟨L, h1, h2, h3⟩, ⟨vs, h4, h5⟩, h6, h7, h8, h9⟩ := I
  exact ⟨⟨L, h1, h2.below h2.lt hb, fun j hj => ⟨(h3 j hj).1.below hb, (h3 j hj).2⟩⟩, ⟨vs, h4, h5.below h5.lt hb⟩, h6, h7, h8, h9.trans (hb.mono h9.size)⟩
/-- The row of values turns. -/
theorem ColI.turn {w0 w w' : World} {g h N on k : Nat} {l : List (List Vl)} {o : List Nat} (I : ColI w0 w g h N on k l o) {vs : List Vl} (m : Wd.Mv (fun x => x = h) w w') (hl : vs.length = on) (hv : Wd.RowV w' h vs) : ColI w0 w' g h N on k l o := by
  obtain ⟨⟨L, h1, h2, h3⟩, -, h6, h7, h8, h9⟩ := I
  exact ⟨⟨L, h1, (m.keep g h2.lt h6).trans h2, fun j hj => ⟨(h3 j hj).1.mv m fun x hx => .inr hx, (h3 j hj).2⟩⟩, ⟨vs, hl, hv⟩, h6, h7, h8, h9.trans (m.below (by rintro x rfl; exact h8) h9.size)⟩
theorem mix_set {T V : List Vl} {i : Nat} (hi : i < T.length) (hl : V.length = T.length) (h : V.take i = T.take i) : (V.set i (T.getD i default)).take (i + 1) = T.take (i + 1) := by
  rw [List.take_succ_eq_append_getElem (by simp; omega), List.take_succ_eq_append_getElem hi, List.take_set_of_le (Nat.le_refl _), h]
  simp [List.getD, List.getElem?_eq_getElem hi]
theorem pick_len (l : List (List Vl)) (o : List Nat) (k : Nat) : (pick l o k).length = o.length := by simp [pick]
theorem pick_get {l : List (List Vl)} {o : List Nat} {k i : Nat} (h : i < o.length) : (pick l o k).getD i default = (l.getD (o.getD i 0) []).getD k default := by
  unfold pick
  rw [List.getD_eq_getElem?_getD, List.getElem?_map, List.getElem?_eq_getElem h, List.getD_eq_getElem?_getD (l := o), List.getElem?_eq_getElem h]
  rfl
set_option maxHeartbeats 16000000 in
theorem columns_any (N : Nat) (R : Option Addr) (m d : Nat) (l : List (List Vl)) (O : Option Addr) (on oc : Nat) (o : List Nat) (w : World) (hL : Wd.Ls w R m d l) (hO : Wd.Sl w .i64 O on oc (ns o)) (ho : ∀ x ∈ o, x < l.length) (hr : ∀ r ∈ l, r.length = N)
    (hmay : ∀ r ∈ l, ∀ v ∈ r, May v) (hN : N ≤ 1000000) (hon : on ≤ 4096) :
    Calls Tryz.prog 37 #[.int .i64 (N : Int), .slice R m d, .slice O on oc] w (OutCs w N l o) := by
  obtain ⟨i0, hi, hz0, hz1, hz2⟩ := info_parts Wd.info_col
  obtain ⟨j0, hj, gz0, gz1, gz2⟩ := info_parts Wd.info_vl
  obtain ⟨zc, hzc⟩ : ∃ zc : Array Value, zc = (Wd.flatC (List.replicate N default)).toArray := ⟨_, rfl⟩
  obtain ⟨zv, hzv⟩ : ∃ zv : Array Value, zv = (Wd.flatV (List.replicate on null)).toArray := ⟨_, rfl⟩
  have hmk : ∀ X : World, (Instr.makeSlice 26 (.int .i64 (N : Int)) (.int .i64 (N : Int))).run Tryz.prog X = .ok (.slice (some ⟨X.heap.size, 0, none⟩) N N) (X.alloc (.cells zc 70)) := fun X => by
    have := run_make (P := Tryz.prog) X 26 70 i0 _ Tryz.underlying26 hi hz0 .i64 .i64 (N : Int) (N : Int) (by omega) (by omega) (by rw [hz2]; omega) (by omega)
    rw [this, hzc, hz1, Int.toNat_natCast, ← Wd.made_col]
  have hmv : ∀ X : World, (Instr.makeSlice 45 (.int .i64 (on : Int)) (.int .i64 (on : Int))).run Tryz.prog X = .ok (.slice (some ⟨X.heap.size, 0, none⟩) on on) (X.alloc (.cells zv 56)) := fun X => by
    have := run_make (P := Tryz.prog) X 45 56 j0 _ Tryz.underlying45 hj gz0 .i64 .i64 (on : Int) (on : Int) (by omega) (by omega) (by rw [gz2]; omega) (by omega)
    rw [this, hzv, gz1, Int.toNat_natCast, ← Wd.made_null]
  have rowc := Lib.hid fun X : World => (by rw [hzc]; exact Wd.Bx.new X _ _ : Wd.Bx (X.alloc (.cells zc 70)) X.heap.size 70 (Wd.flatC (List.replicate N default)).toArray)
  have rowv := Lib.hid fun X : World => (by rw [hzv]; exact Wd.Bx.new X _ _ : Wd.RowV (X.alloc (.cells zv 56)) X.heap.size (List.replicate on null))
  have Hon := Lib.hid (show on = o.length by have := hO.len; rwa [Ssm.ns_len] at this)
  have hoc := hO.cap
  have hox := hO.max
  have hcap := hL.cap
  have hmx := hL.max
  have Hm := Lib.hid hL.len
  unfold maxLen at hox hmx
  have HL := Lib.hid hL
  have HO := Lib.hid hO
  have Ho := Lib.hid ho
  have Hr := Lib.hid hr
  have Hmay := Lib.hid hmay
  have Hzc := Lib.hid hzc
  have Hzv := Lib.hid hzv
  clear hL hO ho hr hmay hzc hzv
  go_enter Tryz.func37, Tryz.ntmps37
  go_upto_region 1 with fail
  go_cut [8, 9] (fun u v wx => ∃ g h, u = .slice (some ⟨g, 0, none⟩) N N ∧ v = .slice (some ⟨h, 0, none⟩) on on ∧ Hid (ColI w wx g h N on 0 l o))
  case first =>
    go_region
    all_goals (
      go_wp2_with fail
      go_meet)
    · refine ⟨w.heap.size, w.heap.size + 1, rfl, rfl, Lib.hid ⟨⟨List.replicate N default, by simp, ?_, fun j hj => by omega⟩, ⟨List.replicate on null, by simp, ?_⟩, by omega, Nat.le_refl _, by omega, (((Below.refl _ _).alloc (Nat.le_refl _) _).alloc (by simp) _).drew⟩⟩
      · exact ((rowc.out w).alloc _).drew
      · have := rowv.out (w.alloc (.cells zc 70))
        rw [World.size_alloc] at this
        exact this.drew
    · refine ⟨w.heap.size + 1, w.heap.size, rfl, rfl, Lib.hid ⟨⟨List.replicate N default, by simp, ?_, fun j hj => by omega⟩, ⟨List.replicate on null, by simp, ?_⟩, by omega, by omega, Nat.le_refl _, (((Below.refl _ _).alloc (Nat.le_refl _) _).alloc (by simp) _).drew⟩⟩
      · have := rowc.out (w.alloc (.cells zv 56))
        rw [World.size_alloc] at this
        exact this.drew
      · exact (Wd.Bx.alloc (rowv.out w) _).drew
  case rest =>
    obtain ⟨g, h, rfl, rfl, hI⟩ := hcut
    clear rowc rowv Hzc Hzv hmk hmv zc zv
    go_wp2_with fail
    go_loopw [22] (fun i wr => ∃ k : Nat, i = .int .i64 k ∧ k ≤ N ∧ Hid (ColI w wr g h N on k l o)) (fun i _ => N - (intOf i).toNat)
    case atStart => exact ⟨0, rfl, Nat.zero_le _, hI⟩
    case round =>
      clear hI
      obtain ⟨k, rfl, hk, hI⟩ := hrel
      by_cases hlt : k < N
      · have hkI : (k : Int) < (N : Int) := by omega
        obtain ⟨w9, h9⟩ : ∃ w9 : World, w9 = wr := ⟨_, rfl⟩
        rw [← h9] at hI
        have hh0 := hI.out.hh
        have hgh := hI.out.ne
        obtain ⟨vs0, hvs0, hv0⟩ := hI.out.val
        have hhl := hv0.lt
        have I0 := Lib.hid (And.intro hvs0 (And.intro hv0 (Wd.Mv.refl (fun x => x = h) w9)))
        have H9 := Lib.hid h9
        clear hvs0 hv0
        rw [← h9]
        clear h9
        go_wp2_with fail
        go_loopw [27] (fun i wq => ∃ (j : Nat) (vs : List Vl), i = .int .i64 j ∧ j ≤ on ∧ Hid (vs.length = on ∧ Wd.RowV wq h vs ∧ Wd.Mv (fun x => x = h) w9 wq ∧ vs.take j = (pick l o k).take j)) (fun i _ => on - (intOf i).toNat)
        case atStart => exact ⟨0, vs0, rfl, Nat.zero_le _, Lib.hid ⟨I0.out.1, I0.out.2.1, I0.out.2.2, by simp⟩⟩
        case round =>
          clear I0
          obtain ⟨j, vs, rfl, hj2, hJ⟩ := hrel
          by_cases hlj : j < on
          · have hjI : (j : Int) < (on : Int) := by omega
            have hbw : Below w.heap.size w wr := hI.out.bel.trans (hJ.out.2.2.1.below (by rintro x rfl; exact hh0) hI.out.bel.size)
            have hjo : j < o.length := by rw [← Hon.out]; exact hlj
            obtain ⟨b, f, hA, _, co⟩ := (HO.out.below hbw).rd j (by rw [Ssm.ns_len]; exact hjo)
            rw [Ssm.ns_get] at co
            have hxo := Ho.out (o.getD j 0) (by rw [List.getD_eq_getElem?_getD, List.getElem?_eq_getElem hjo]; exact List.getElem_mem hjo)
            obtain ⟨x, hx⟩ : ∃ x, x = o.getD j 0 := ⟨_, rfl⟩
            rw [← hx] at co hxo
            obtain ⟨b2, f2, A2, n2, c2, hA2, _, cl, hV2⟩ := (HL.out.below hbw).at_ x hxo
            have hrl := Hr.out (l.getD x []) (by rw [List.getD_eq_getElem?_getD, List.getElem?_eq_getElem hxo]; exact List.getElem_mem hxo)
            obtain ⟨b3, f3, hA3, _, d0, d1, d2, d3, _⟩ := hV2.cells (j := k) (by omega) rfl
            have hn2 := hV2.len
            have k2 : (k : Int) < (n2 : Int) := by omega
            have xm : (x : Int) < (m : Int) := by have := Hm.out; omega
            obtain ⟨v, hv⟩ : ∃ v, v = (l.getD x []).getD k default := ⟨_, rfl⟩
            rw [← hv] at d0 d1 d2 d3
            subst hA hA2 hA3
            have hjv : j < vs.length := by rw [hJ.out.1]; exact hlj
            obtain ⟨y, ⟨e0, e1, e2, e3⟩, g0, g1, g2, g3⟩ := hJ.out.2.1.four hjv
            have hset := hJ.out.2.1.set j hjv v
            have hpk : (pick l o k).getD j default = v := by rw [pick_get hjo, ← hx, hv]
            have htk := mix_set (T := pick l o k) (V := vs) (i := j) (by rw [pick_len]; exact hjo) (by rw [pick_len, hJ.out.1]; exact Hon.out) hJ.out.2.2.2
            rw [hpk] at htk
            have hmv2 := (((hJ.out.2.2.1.set (a := ⟨h, j * 4, none⟩) rfl (.int .i64 v.kind)).set (a := ⟨h, j * 4 + 1, none⟩) rfl (.int .i64 v.i)).set (a := ⟨h, j * 4 + 2, none⟩) rfl (.string v.s)).set (a := ⟨h, j * 4 + 3, none⟩) rfl (.bool v.b)
            have J2 := Lib.hid (And.intro (show (vs.set j v).length = on by simp [hJ.out.1]) (And.intro hset (And.intro hmv2 htk)))
            have Hx := Lib.hid hx
            have Hv := Lib.hid hv
            clear hset hmv2 htk hpk hx hv hJ hV2 hrl hn2 hbw hxo hjv hjo
            go_wp2_with fail
            go_roundw
            case rel => exact ⟨j + 1, vs.set j v, by go_num, by omega, J2⟩
            case measure => simp [intOf]; omega
          · have hjI : ¬ (j : Int) < (on : Int) := by omega
            obtain rfl : j = on := by omega
            have hvs : vs = pick l o k := by
              have := hJ.out.2.2.2
              rw [List.take_of_length_le (by rw [hJ.out.1]; exact Nat.le_refl _), List.take_of_length_le (by rw [pick_len]; exact Nat.le_of_eq Hon.out.symm)] at this
              exact this
            have hrow := hJ.out.2.1
            rw [hvs] at hrow
            have hI2 := hI.out.turn hJ.out.2.2.1 hJ.out.1 hJ.out.2.1
            have hbw := hI2.bel
            have pk : ∀ q, q < o.length → o.getD q 0 < l.length := fun q hq => Ho.out _ (by rw [List.getD_eq_getElem?_getD, List.getElem?_eq_getElem hq]; exact List.getElem_mem hq)
            have hv1 : ∀ q, q < (pick l o k).length → Wd.V1 ((pick l o k).getD q default) := fun q hq => by
              rw [pick_len] at hq
              rw [pick_get hq]
              obtain ⟨_, _, _, _, _, _, _, _, hV⟩ := (HL.out.below hbw).at_ _ (pk q hq)
              have hl2 := Hr.out (l.getD (o.getD q 0) []) (by rw [List.getD_eq_getElem?_getD, List.getElem?_eq_getElem (pk q hq)]; exact List.getElem_mem (pk q hq))
              obtain ⟨_, _, _, _, _, z⟩ := hV.at_ k (by omega)
              exact z
            have hmy : ∀ v ∈ pick l o k, May v := fun v hv => by
              obtain ⟨x, hx, rfl⟩ := List.mem_map.1 hv
              have hxl := Ho.out x hx
              have hl2 := Hr.out (l.getD x []) (by rw [List.getD_eq_getElem?_getD, List.getElem?_eq_getElem hxl]; exact List.getElem_mem hxl)
              refine Hmay.out (l.getD x []) (by rw [List.getD_eq_getElem?_getD, List.getElem?_eq_getElem hxl]; exact List.getElem_mem hxl) _ ?_
              rw [List.getD_eq_getElem?_getD (i := k), List.getElem?_eq_getElem (by omega)]
              exact List.getElem_mem _
            have hvsl := hrow.vs j (by rw [pick_len]; exact Hon.out) (by unfold maxLen; omega) hv1
            have Cb := Lib.hid (Cx.cbuild_new _ j j (pick l o k) wr hvsl fun v hv => may_sz (hmy v hv))
            obtain ⟨C, hC⟩ : ∃ C, build (pick l o k) = (C, 0) := ⟨_, by rw [Co.build_ok (by rw [pick_len, ← Hon.out]; exact hon) hmy]⟩
            rw [hC] at Cb
            have Cb : Hid (Calls Tryz.prog 63 #[.slice (some ⟨h, 0, none⟩) j j] wr fun e w' => ∃ A n c B m d, e = .returned (.tuple #[.agg #[.int .i64 C.n, .slice A n c, .slice B m d], .int .i64 0]) ∧ Cx.Cl w' A n c B m d C ∧ Below wr.heap.size wr w' ∧ ∀ a, A = some a → wr.heap.size ≤ a.block) := Lib.hid Cb.out
            have HC := Lib.hid (show (build (pick l o k)).1 = C by rw [hC])
            have Hhl := hrow.lt
            have HI2 := Lib.hid hI2
            have Hrw := Lib.hid hrow
            clear hI2 hrow hvsl hmy hv1 pk hvs hJ hI hbw hC
            go_wp2_with fail
            refine Cb.out.mono ?_
            rintro e w5 ⟨A5, n5, c5, B5, m5, d5, rfl, hCl, hB5, hnew⟩
            have I5 := HI2.out.below hB5
            have I6 := I5.below ((Below.refl w5.heap.size w5).alloc (Nat.le_refl _) (.cells #[.int .i64 C.n, .slice A5 n5 c5, .slice B5 m5 d5] 70))
            have bx6 := Cx.Cb.new w5 C.n A5 n5 c5 B5 m5 d5
            have cl6 := hCl.below ((Below.refl w5.heap.size w5).alloc (Nat.le_refl _) (.cells #[.int .i64 C.n, .slice A5 n5 c5, .slice B5 m5 d5] 70))
            have hz5 := hB5.size
            have hgl := (show g < wr.heap.size by obtain ⟨L, _, q, _⟩ := HI2.out.ex; exact q.lt)
            clear Cb hCl I5
            go_upto_region 11 with fail
            generalize hw6 : w5.alloc (.cells #[.int .i64 C.n, .slice A5 n5 c5, .slice B5 m5 d5] 70) = w6 at *
            clear hw6
            obtain ⟨L, h1, h2, h3⟩ := I6.ex
            obtain ⟨vs6, hl6, hv6⟩ := I6.val
            have hkL : k < L.length := by omega
            have n1 := cl6.ids.apart h2 (Wd.flatC_no L)
            have n2 := cl6.ids.apart hv6 (Wd.flatV_no vs6)
            obtain ⟨v, hv⟩ : ∃ v : Cr, v = ⟨A5, n5, c5, B5, m5, d5, C⟩ := ⟨_, rfl⟩
            have hK : Kept w6 g h v := by
              rw [hv]
              exact ⟨cl6, fun a ha _ => by have := hnew a ha; exact ⟨by omega, by omega⟩, fun a ha hn => ⟨n1 a ha hn, n2 a ha hn⟩⟩
            have hset := h2.set3 k hkL v
            have m7 := (((Wd.Mv.refl (fun x => x = g) w6).set (a := ⟨g, k * 3, none⟩) rfl (.int .i64 v.C.n)).set (a := ⟨g, k * 3 + 1, none⟩) rfl (.slice v.A v.n v.c)).set (a := ⟨g, k * 3 + 2, none⟩) rfl (.slice v.B v.m v.d)
            have hvC : v.C = (build (pick l o k)).1 := by rw [hv, HC.out]
            have I7 : ColI w (((w6.setCell ⟨g, k * 3, none⟩ (.int .i64 v.C.n)).setCell ⟨g, k * 3 + 1, none⟩ (.slice v.A v.n v.c)).setCell ⟨g, k * 3 + 2, none⟩ (.slice v.B v.m v.d)) g h N j (k + 1) l o :=
              ⟨⟨L.set k v, by simp [h1], hset, fun q hq => by
                by_cases z : k = q
                · subst z
                  rw [show (L.set k v).getD k default = v by simp [List.getD, hkL]]
                  exact ⟨hK.mv m7 fun x hx => .inl hx, hvC⟩
                · rw [show (L.set k v).getD q default = L.getD q default by simp [List.getD, z]]
                  have := h3 q (by omega)
                  exact ⟨this.1.mv m7 fun x hx => .inl hx, this.2⟩⟩, ⟨vs6, hl6, (m7.keep h hv6.lt fun q => I6.ne q.symm).trans hv6⟩, I6.ne, I6.gg, I6.hh, I6.bel.trans (m7.below (by rintro x rfl; exact I6.gg) I6.bel.size)⟩
            have cc : ∀ (i : Nat) (u : Value), (L.getD k default).vals[i]? = some u → w6.cell? ⟨g, k * 3 + i, none⟩ = some u := fun i u hu => (h2.cell (k * 3 + i)).trans (by rw [List.getElem?_toArray]; exact Wd.flatC_get L k hkL i u hu)
            have q0 : w6.cell? ⟨g, k * 3, none⟩ = some (.int .i64 (L.getD k default).C.n) := cc 0 _ rfl
            have q1 : w6.cell? ⟨g, k * 3 + 1, none⟩ = some (.slice (L.getD k default).A (L.getD k default).n (L.getD k default).c) := cc 1 _ rfl
            have q2 : w6.cell? ⟨g, k * 3 + 2, none⟩ = some (.slice (L.getD k default).B (L.getD k default).m (L.getD k default).d) := cc 2 _ rfl
            generalize L.getD k default = lk at q0 q1 q2
            have g0 := h2.free (k * 3)
            have g1 := h2.free (k * 3 + 1)
            have g2 := h2.free (k * 3 + 2)
            have r0 := bx6.c0
            have r1 := bx6.c1
            have r2 := bx6.c2
            rw [hv] at I7
            have H7 := Lib.hid I7
            clear I7 cc hvC m7 hset hK n1 n2 hkL h1 h2 h3 hl6 hv6 I6 cl6 bx6 hnew hv
            go_wp2_with fail
            go_roundw
            case rel => exact ⟨k + 1, by go_num, by omega, H7⟩
            case measure => simp [intOf]; omega
      · have hkI : ¬ (k : Int) < (N : Int) := by omega
        obtain rfl : k = N := by omega
        obtain ⟨L, h1, h2, h3⟩ := hI.out.ex
        have hc : Wd.Cms wr (some ⟨g, 0, none⟩) k k L := Wd.Cms.of_bx h2 (fun j hj => (h3 j (by omega)).1.c) k h1.symm (by unfold maxLen; omega)
        have he : Wd.cols L = colsOf k l o := by
          refine List.ext_getElem (by rw [Wd.cols_len, colsOf_len, h1]) fun j q1 q2 => ?_
          have q3 : j < k := by rw [Wd.cols_len, h1] at q1; exact q1
          have := (h3 j q3).2
          rw [← Wd.cols_get, ← colsOf_get q3] at this
          simpa [List.getD, List.getElem?_eq_getElem q1, List.getElem?_eq_getElem q2] using this
        have H := Lib.hid (And.intro hc (And.intro he (And.intro hI.out.bel hI.out.gg)))
        clear h1 h2 h3 hc he hI
        go_wp2_with fail
        go_ret2
        exact ⟨_, _, L, rfl, H.out.1, H.out.2.1, H.out.2.2.1, fun a ha => by cases ha; exact H.out.2.2.2⟩
end Se
end Go.Proofs.YtoibpbnebcoafaaGreat
namespace Go.Proofs.YtoibpbnebcoafaaGreat
set_option maxRecDepth 20000
open Go.RowKit Go.Sort
namespace Se
open Va (Vl ord)
open Sc (Sch MayS FitS tr tr_yes tr_no tr_iff tr_congr)
open Sx (Sb five)
open Ssm (ns)
theorem range_rise (n : Nat) : (List.range n).Pairwise (· ≤ ·) := by
  refine List.pairwise_iff_getElem.2 fun i j hi hj hij => ?_
  simp
  omega
/-- The comparison that arrange hands on, in every world of the sort. -/
theorem cmp_arr (A : Option Addr) (n c : Nat) (s : Sch) (pb lb g : Nat) (R : Option Addr) (m d : Nat) (l : List (List Vl)) (w w0 : World) (hL : Wd.Ls w R m d l) (hs : ∀ r ∈ l, Srt s r) (hw : Below w.heap.size w w0)
    (hB : Sb w0 pb A n c s.key s.cmp s.del s.sort) (hb : Wd.Bx w0 lb 33 #[.slice R m d]) (h1 : pb ≠ g) (h2 : lb ≠ g) (h3 : w.heap.size ≤ g) :
    Ssm.Cmp 61 #[.pointer (some ⟨pb, 0, none⟩), .pointer (some ⟨lb, 0, none⟩)] (cf s l) g m w0 where
  goes := enters_of Tryz.func61 (by kernel_rfl) rfl
  call W hM x y hx hy := by
    have hW : Below w.heap.size w W := hw.trans (hM.below (by rintro k rfl; exact h3) hw.size)
    have q1 : Sb W pb A n c s.key s.cmp s.del s.sort := (hM.keep pb hB.lt h1).trans hB
    have q2 : Wd.Bx W lb 33 #[.slice R m d] := (hM.keep lb hb.lt h2).trans hb
    exact arr1_any A n c s pb lb R m d l W q1 (q2.cell 0) (hL.below hW) hs x y hx hy
/-- A slice of numbers that is new. -/
def OutNw (w : World) (ys : List Int) (e : Ending) (w' : World) : Prop := ∃ A n c, e = .returned (.slice A n c) ∧ Wd.Sl w' .i64 A n c ys ∧ Below w.heap.size w w' ∧ ∀ a, A = some a → w.heap.size ≤ a.block
set_option maxHeartbeats 4000000 in
theorem arrange_any (A : Option Addr) (n c : Nat) (s : Sch) (R : Option Addr) (m d : Nat) (l : List (List Vl)) (w : World) (hL : Wd.Ls w R m d l) (hs : ∀ r ∈ l, Srt s r) (hm : m ≤ 1000000) :
    Calls Tryz.prog 36 #[.agg #[.slice A n c, .int .i64 s.key, .int .i64 s.cmp, .int .i64 s.del, .int .i64 s.sort], .slice R m d] w (OutNw w (ns (arr s l))) := by
  obtain ⟨i0, hi, hz0, hz1, hz2⟩ := info_parts Dx.info_i
  have hlen := hL.len
  obtain ⟨w1, hw1⟩ : ∃ w1, w1 = (w.alloc (.cells #[.slice A n c, .int .i64 s.key, .int .i64 s.cmp, .int .i64 s.del, .int .i64 s.sort] 24)).alloc (.cells #[.slice R m d] 33) := ⟨_, rfl⟩
  have hz := Lib.hid (show w1.heap.size = w.heap.size + 1 + 1 by rw [hw1]; simp)
  have hzl : w.heap.size + 1 + 1 ≤ w1.heap.size ∧ w1.heap.size ≤ w.heap.size + 1 + 1 := by have := hz.out; omega
  have hb1 : Below w.heap.size w w1 := by rw [hw1]; exact ((Below.refl _ _).alloc (Nat.le_refl _) _).alloc (by simp) _
  have x0 : Sb w1 w.heap.size A n c s.key s.cmp s.del s.sort := by rw [hw1]; exact (Wd.Bx.new w _ _).alloc _
  have x1 : Wd.Bx w1 (w.heap.size + 1) 33 #[.slice R m d] := by
    have := Wd.Bx.new (w.alloc (.cells #[.slice A n c, .int .i64 s.key, .int .i64 s.cmp, .int .i64 s.del, .int .i64 s.sort] 24)) 33 #[.slice R m d]
    rw [World.size_alloc] at this
    rw [hw1]
    exact this
  have cl := x1.cell 0
  have HL := Lib.hid hL
  have Hlen := Lib.hid hlen
  have Hb1 := Lib.hid hb1
  have X := Lib.hid (And.intro x0 x1)
  have Hw1 := Lib.hid hw1
  obtain ⟨D, hD⟩ : ∃ D, D = ns (List.range m) := ⟨_, rfl⟩
  have hDl : D.length = m := by rw [hD, Ssm.ns_len, List.length_range]
  have hDg := fun k (hk : k < m) => show D.getD k 0 = (k : Int) by
    rw [hD, Ssm.ns_get]
    simp [List.getD, hk]
  obtain ⟨zc, hzc⟩ : ∃ zc : Array Value, zc = ((List.replicate m (0 : Int)).map (Value.int .i64)).toArray := ⟨_, rfl⟩
  have hmk : ∀ X : World, (Instr.makeSlice 25 (.int .i64 (m : Int)) (.int .i64 (m : Int))).run Tryz.prog X = .ok (.slice (some ⟨X.heap.size, 0, none⟩) m m) (X.alloc (.cells zc 3)) := fun X => by
    have := run_make (P := Tryz.prog) X 25 3 i0 _ Tryz.underlying25 hi hz0 .i64 .i64 (m : Int) (m : Int) (by omega) (by omega) (by rw [hz2]; omega) (by omega)
    rw [this, hzc, hz1, Int.toNat_natCast, ← Wd.made_zero]
  have Hzc := Lib.hid hzc
  have rowz := Lib.hid fun X : World => (by rw [hzc]; exact heap_alloc_new X _ : Wd.Row (X.alloc (.cells zc 3)) X.heap.size .i64 3 (List.replicate m 0))
  have HDl := Lib.hid hDl
  have HDg := Lib.hid hDg
  have HD := Lib.hid hD
  clear hw1 hlen hL hb1 x0 x1 hDl hDg hD hzc
  go_enter Tryz.func36, Tryz.ntmps36
  go_wp2_with fail
  rw [← Hw1.out]
  have I0 := Lib.hid (And.intro (hz.out ▸ rowz.out w1 : Wd.Row (w1.alloc (.cells zc 3)) (w.heap.size + 1 + 1) .i64 3 (List.replicate m 0)) ((Below.refl w1.heap.size w1).alloc (Nat.le_refl _) (.cells zc 3)))
  generalize w1.alloc (.cells zc 3) = w3 at *
  clear rowz Hzc hmk cl
  go_loopw [12] (fun i wr => ∃ k : Nat, i = .int .i64 k ∧ k ≤ m ∧ Hid (Wd.Row wr (w.heap.size + 1 + 1) .i64 3 (Wd.fill D k) ∧ Below w1.heap.size w1 wr)) (fun i _ => m - (intOf i).toNat)
  case atStart =>
    refine ⟨0, rfl, Nat.zero_le _, Lib.hid ?_⟩
    rw [Wd.fill_zero, HDl.out]
    exact I0.out
  case round =>
    clear I0
    obtain ⟨k, rfl, hk, hI⟩ := hrel
    by_cases hlt : k < m
    · have hkI : (k : Int) < (m : Int) := by omega
      have cg := hI.out.1.cell k (by rw [Wd.fill_len, HDl.out]; exact hlt)
      have cf := hI.out.1.free k
      have hst : Wd.Row (wr.setCell ⟨w.heap.size + 1 + 1, k, none⟩ (.int .i64 (k : Int))) (w.heap.size + 1 + 1) .i64 3 (Wd.fill D (k + 1)) := by
        have := hI.out.1.set k (k : Int)
        rw [← HDg.out k hlt, Wd.fill_set D k (by rw [HDl.out]; exact hlt)] at this
        rw [HDg.out k hlt] at this
        exact this
      have hI2 := Lib.hid (And.intro hst (hI.out.2.setCell (p := ⟨w.heap.size + 1 + 1, k, none⟩) hzl.2 (.int .i64 (k : Int))))
      clear hst hI
      go_wp2_with fail
      go_roundw
      case rel => exact ⟨k + 1, by go_num, by omega, hI2⟩
      case measure => simp [intOf]; omega
    · have hkI : ¬ (k : Int) < (m : Int) := by omega
      obtain rfl : k = m := by omega
      have hrow : Wd.Row wr (w.heap.size + 1 + 1) .i64 3 (ns (List.range k)) := by
        have := hI.out.1
        rw [show Wd.fill D k = D by have := Wd.fill_all D; rw [HDl.out] at this; exact this, HD.out] at this
        exact this
      have hwr := hI.out.2
      have y0 : Sb wr w.heap.size A n c s.key s.cmp s.del s.sort := X.out.1.below (by omega) hwr
      have y1 : Wd.Bx wr (w.heap.size + 1) 33 #[.slice R k d] := X.out.2.below (by omega) hwr
      have hwB : Below w.heap.size w wr := Hb1.out.trans (hwr.mono Hb1.out.size)
      have C := cmp_arr A n c s w.heap.size (w.heap.size + 1) (w.heap.size + 1 + 1) R k d l w wr HL.out hs hwB y0 y1 (by omega) (by omega) (by omega)
      have S0 : Ssm.Sw wr (w.heap.size + 1 + 1) k (List.range k) wr := ⟨hrow, Wd.Mv.refl _ _, fun x hx => List.mem_range.1 hx⟩
      have Cs := Lib.hid (Ssm.sortStable_any (c := k) (wk s l) C (range_rise k) (n := k) (by simp) (by omega) S0)
      have HwB := Lib.hid hwB
      have hzz := hwr.size
      clear hrow hwr y0 y1 C S0 hI hwB
      go_wp2_with fail
      refine Cs.out.mono ?_
      rintro e w5 ⟨rfl, h5⟩
      have h5r := h5.row
      have h5m := h5.mv
      have hB5 := Lib.hid (HwB.out.trans (h5m.below (B := w.heap.size) (by rintro x rfl; omega) HwB.out.size))
      have hS5 := Lib.hid (h5r.sl k (by rw [Ssm.ns_len, Ssm.srt_len, List.length_range]) (by unfold maxLen; omega))
      clear h5 h5r h5m Cs
      go_wp2_with fail
      go_ret
      refine ⟨_, _, _, rfl, ?_, hB5.out, fun a ha => by cases ha; show _ ≤ w.heap.size + 1 + 1; omega⟩
      have e : arr s l = Ssm.srt (cf s l) (List.range k) := by unfold arr; rw [← Hlen.out]
      rw [e]
      exact hS5.out
set_option maxHeartbeats 1000000 in
theorem order_any (A : Option Addr) (n c : Nat) (s : Sch) (R : Option Addr) (m d : Nat) (l : List (List Vl)) (w : World) (hS : Wd.Cs w A n c s.cols) (hL : Wd.Ls w R m d l) (hn : n ≤ 1000000) (hm : m ≤ 1000000) :
    Calls Tryz.prog 17 #[.agg #[.slice A n c, .int .i64 s.key, .int .i64 s.cmp, .int .i64 s.del, .int .i64 s.sort], .slice R m d] w (Wd.Out w .i64 (ns (order s l))) := by
  have hb0 := (Below.refl w.heap.size w).alloc (Nat.le_refl _) (.cells #[.slice A n c, .int .i64 s.key, .int .i64 s.cmp, .int .i64 s.del, .int .i64 s.sort] 24)
  have s0 : Sb (w.alloc (.cells #[.slice A n c, .int .i64 s.key, .int .i64 s.cmp, .int .i64 s.del, .int .i64 s.sort] 24)) w.heap.size A n c s.key s.cmp s.del s.sort := Wd.Bx.new w _ _
  have Cf := Lib.hid (fit_any A n c s R m d l _ (hS.below hb0) (hL.below hb0) hn)
  have HL := Lib.hid (hL.below hb0)
  have HB := Lib.hid s0
  have Hb0 := Lib.hid hb0
  obtain ⟨c0, c1, c2, c3, c4⟩ := five s0
  have hplt := s0.lt
  clear hb0 s0 hS hL
  go_enter Tryz.func17, Tryz.ntmps17
  by_cases hf : Fit s l
  · have q1 := Lib.hid (tr_yes hf)
    have q2 := Lib.hid (order_yes hf)
    have q3 := Lib.hid (show ∀ r ∈ l, Srt s r from fun r hr => srt_of (hf.2 r hr))
    clear hf
    go_wp2_with fail
    refine Cf.out.mono ?_
    rintro e w1 ⟨rfl, hB1⟩
    rw [q1.out]
    have Ca := Lib.hid (arrange_any A n c s R m d l w1 (HL.out.below hB1) q3.out hm)
    have Hb1 := Lib.hid (Hb0.out.trans (hB1.mono Hb0.out.size))
    obtain ⟨c0, c1, c2, c3, c4⟩ := five (HB.out.below hplt hB1)
    clear hB1 Cf q1
    go_wp2_with fail
    refine Ca.out.mono ?_
    rintro e w2 ⟨A', n', c', rfl, hS2, hB2, -⟩
    have H2 := Lib.hid (And.intro hS2 (Hb1.out.trans (hB2.mono Hb1.out.size)))
    clear hS2 hB2 Ca
    go_wp2_with fail
    go_ret
    exact ⟨_, _, _, rfl, by rw [q2.out]; exact H2.out.1, H2.out.2⟩
  · have q1 := Lib.hid (tr_no hf)
    have q2 := Lib.hid (order_no hf)
    clear hf
    go_wp2_with fail
    refine Cf.out.mono ?_
    rintro e w1 ⟨rfl, hB1⟩
    rw [q1.out]
    have Hb1 := Lib.hid (Hb0.out.trans (hB1.mono Hb0.out.size))
    clear hB1 Cf q1
    go_wp2_with fail
    go_ret
    exact ⟨_, _, _, rfl, by rw [q2.out]; exact Wd.Sl.none_ _ _, Hb1.out⟩
end Se
end Go.Proofs.YtoibpbnebcoafaaGreat
