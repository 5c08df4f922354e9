/- What the reference of layer 10 does: Put. A valid light segment in memory, as plain data: its numbers are within their kinds, its payloads are bytes, and short. What may be read of whichever bytes begin a segment's file, or go on behind it. Package file: the first payload of a segment's file. Words and what goes with it. -/
import Derived.Deep.Slices
import Derived.WalkKit
import Derived.WalkSpells
import Derived.Lib.Hide
import Derived.IntWalk
import Derived.Maps.AppendAt
import Derived.Test.YtaoeipehpakngaaGreatDoorPa23
import Derived.Test.YtaoeipehpakngaaGreatDoorPa09
import Derived.Test.YtaoeipehpakngaaGreatDoorPa06
import Derived.Test.YtaoeipehpakngaaGreatDoorPa05
import Derived.Test.YtaoeipehpakngaaGreatDoorPa07
import Derived.Test.YtaoeipehpakngaaGreatDoorPa20
import Derived.Test.YtaoeipehpakngaaGreatDoorPa08
namespace Go.Proofs.YtaoeipehpakngaaGreatDoor
set_option maxRecDepth 20000
open Go.RowKit
namespace Cx
open Va (Vl May ord null)
open Sc (tr tr_yes tr_no tr_iff)
open Co
theorem info_y : (Tryz.prog.info? 5).map (fun i => (i.zero, i.size, i.bytes)) = some (some (.int .u8 0), 1, 1) := by kernel_rfl
theorem putD_next (D : List Vl) (k : Nat) (h : k < D.length) : putD (D.take (k + 1)) = putD (D.take k) ++ ((D.getD k default).kind :: Va.put (D.getD k default)) := by
  unfold putD
  rw [List.take_succ_eq_append_getElem h, List.flatMap_append]
  simp [List.getD, h]
theorem putD_len {D : List Vl} (h : ∀ v ∈ D, May v) : (putD D).length ≤ 75 * D.length := by
  induction D with
  | nil => simp [putD]
  | cons a D ih =>
    have h1 := Va.put_len (h a (by simp))
    have h2 := ih fun v hv => h v (by simp [hv])
    unfold putD at *
    simp only [List.flatMap_cons, List.length_append, List.length_cons]
    omega
theorem may_kind {v : Vl} (h : May v) : 0 ≤ v.kind ∧ v.kind ≤ 3 := by
  unfold May at h
  omega
theorem sl_grown {w w' : World} {k : IntKind} {A : Option Addr} {n c : Nat} {ys : List Int} {row : Option Nat} (h : Wd.Sl w k A n c ys) (hg : w.grownBy w' row) (hne : ∀ a, A = some a → some a.block ≠ row) : Wd.Sl w' k A n c ys :=
  ⟨h.len, h.cap, h.max, h.nil, fun j hj => by
    obtain ⟨b, o, e, hlt, hc⟩ := h.rd j hj
    exact ⟨b, o, e, Nat.lt_of_lt_of_le hlt hg.size, (World.cell?_of_block (hg.block b hlt (hne _ e))).trans hc⟩⟩
set_option maxHeartbeats 8000000 in
theorem refPut_any (A : Option Addr) (n c : Nat) (B : Option Addr) (m d : Nat) (C : Col) (w : World) (h : Cl w A n c B m d C) (hn : n ≤ 100000) (hm : m ≤ 1000000) :
    Calls Tryz.prog 26 #[.agg #[.int .i64 C.n, .slice A n c, .slice B m d]] w (Wd.Out2 w .u8 (put C).1 (put C).2) := by
  obtain ⟨i0, hi, hz0, hz1, hz2⟩ := info_parts info_y
  have hb0 := (Below.refl w.heap.size w).alloc (Nat.le_refl _) (.cells #[.int .i64 C.n, .slice A n c, .slice B m d] 57)
  have x0 := Cb.new w C.n A n c B m d
  have C1 := Lib.hid (refIds_any A n c B m d C _ (h.below hb0) hn hm)
  have Hb0 := Lib.hid hb0
  have HD := Lib.hid h.dict
  have HI := Lib.hid h.ids
  have Hn := Lib.hid h.dict.len
  have Hm := Lib.hid h.ids.len
  have hcap := h.dict.cap
  have hmx := h.dict.max
  have hcap2 := h.ids.cap
  have hmx2 := h.ids.max
  unfold maxLen at hmx hmx2
  have n1 := h.n1
  have HN := Lib.hid (rfl : C.n = C.n)
  have bx := x0.bx
  by_cases hv : Valid C
  case neg =>
    rw [put_no hv]
    have et := tr_no hv
    rw [et] at C1
    clear h hb0 hv et
    have c0 := x0.c0
    have c1 := x0.c1
    have c2 := x0.c2
    obtain ⟨N, hN⟩ : ∃ N, N = C.n := ⟨_, rfl⟩
    rw [← hN] at C1 Hb0 c0 c1 c2 ⊢
    clear hN x0 bx HN n1
    go_enter Tryz.func26, Tryz.ntmps26
    go_wp2_with fail
    refine C1.out.mono ?_
    rintro e w1 ⟨P, p, q, rfl, hSl, hB1⟩
    have Hb1 := Lib.hid (Hb0.out.trans (hB1.mono (by simp)))
    clear hB1 c0 c1 c2 hSl
    go_wp2_with fail
    go_ret2
    exact ⟨_, _, _, rfl, Wd.Sl.none_ _ _, Hb1.out⟩
  rw [put_yes hv]
  have et := tr_yes hv
  rw [et] at C1
  have n0 := hv.n0
  have HM := Lib.hid hv.ris.1
  obtain ⟨N, hN⟩ : ∃ N, N = C.n := ⟨_, rfl⟩
  have P1 := Lib.hid fun w => Nc.refPutLen_own N w (by rw [hN]; exact n0) (by rw [hN]; exact n1)
  have P2 := Lib.hid fun w => Nc.refPutLen_own (n : Int) w (by omega) (by omega)
  have l1 := (Nm.vd_len N).2
  have l2 := (Nm.vd_len (n : Int)).2
  obtain ⟨T, hT⟩ : ∃ T : Nat → List Int, T = fun k => (Nm.vd N ++ Nm.vd (n : Int)) ++ putD (C.dict.take k) := ⟨_, rfl⟩
  have HT0 := Lib.hid (show T 0 = Nm.vd N ++ Nm.vd (n : Int) by rw [hT]; simp [putD])
  have HT1 := Lib.hid (show ∀ k, k < C.dict.length → T (k + 1) = (T k ++ [(C.dict.getD k default).kind]) ++ Va.put (C.dict.getD k default) from fun k hk => by
    rw [hT]
    show (Nm.vd N ++ Nm.vd (n : Int)) ++ putD (C.dict.take (k + 1)) = _
    rw [putD_next _ _ hk]
    simp)
  have HTn := Lib.hid (show T n ++ C.ids = puts C by
    rw [hT]
    show ((Nm.vd N ++ Nm.vd (n : Int)) ++ putD (C.dict.take n)) ++ C.ids = _
    rw [List.take_of_length_le (by rw [Hn.out]; exact Nat.le_refl _)]
    unfold puts
    rw [hN, Hn.out])
  have HTl := Lib.hid (show ∀ k, (T k).length ≤ 20 + 75 * k from fun k => by
    have h1 := putD_len (D := C.dict.take k) fun v hv' => HM.out v (List.mem_of_mem_take hv')
    have h2 : (C.dict.take k).length ≤ k := by simp; omega
    rw [hT]
    show (Nm.vd N ++ Nm.vd (n : Int) ++ putD (C.dict.take k)).length ≤ _
    simp only [List.length_append]
    omega)
  rw [← HTn.out]
  have hl1 := Lib.hid l1
  have hl2 := Lib.hid l2
  rw [← hN] at x0 C1 Hb0 ⊢
  have c0 := x0.c0
  have c1 := x0.c1
  have c2 := x0.c2
  clear h hb0 hv et hN bx HN n0 n1 hT l1 l2
  go_enter Tryz.func26, Tryz.ntmps26
  go_wp2_with fail
  refine C1.out.mono ?_
  rintro e w1 ⟨P, p, q, rfl, hSl, hB1⟩
  have y0 := x0.below (by simp) hB1
  have hlt1 := y0.lt
  have Hb1 := Lib.hid (Hb0.out.trans (hB1.mono (by simp)))
  clear hB1 c0 c1 c2 hSl x0 C1
  have c0 := y0.c0
  have c1 := y0.c1
  have c2 := y0.c2
  go_wp2_with fail
  have hb := (Below.refl w1.heap.size w1).drew
  have z10 : w1.drew.cell? ⟨w.heap.size, 0, none⟩ = some (.int .i64 N) ∧ w1.drew.cell? ⟨w.heap.size, 1, none⟩ = some (.slice A n c) := ⟨c0, c1⟩
  go_region_held3 (fun w' => w'.cell? ⟨w.heap.size, 0, none⟩ = some (.int .i64 N) ∧ w'.cell? ⟨w.heap.size, 1, none⟩ = some (.slice A n c)) (with_reducible first | exact z10) (first
    | (go_at_call 24; (with_reducible refine (P1.out _).mono ?_); rintro e w5 ⟨v5, rfl, hO5, hB5⟩; have hO5 := Wd.own_down hO5 hb.size; have hb := hb.trans (hB5.mono hb.size); have y9 := y0.below hlt1 hb; have z10 := And.intro y9.c0 y9.c1)
    | (go_at_call 24; (with_reducible refine (P2.out _).mono ?_); rintro e w6 ⟨v6, rfl, hO6, hB6⟩; have hO5 := Wd.own_below hO5 hB6; have hb := hb.trans (hB6.mono hb.size); obtain ⟨A6, n6, c6, rfl, hS6⟩ := Wd.Sl.of_own hO6; have y9 := y0.below hlt1 hb; have z10 := And.intro y9.c0 y9.c1)
    | (refine Wd.step_app _ rfl (.tmp 19) (.tmp 23) 32 rfl w1.heap.size 5 i0 _ .u8 1 Tryz.underlying32 hi hz0 hz1 hz2 rfl v5 (Nm.vd N) rfl hO5 _ A6 n6 c6 (Nm.vd (n : Int)) (by rfl) hS6.len hS6.nil hS6.rd (by have := hl1.out; have := hl2.out; omega) (by unfold maxLen; have := hl1.out; have := hl2.out; omega) hb.size ?_; intro v8 w8 hO8 hg8; have hb8 := hb.grown hg8 hb.size (fun g hg => (hO5.lt g hg).1); have y9 := y0.below hlt1 hb8; have z10 := And.intro y9.c0 y9.c1))
  have HB8 := Lib.hid hb8
  have hlt8 := y9.lt
  have y8 := y9
  have hs8 := hb8.size
  rw [← HT0.out] at hO8
  have HDw := Lib.hid (HD.out.below (Hb1.out.trans (hb8.mono Hb1.out.size)))
  have HIw := Lib.hid (HI.out.below (Hb1.out.trans (hb8.mono Hb1.out.size)))
  have HO8 := Lib.hid hO8
  clear z10 c0 c1 c2 hO5 hO6 hS6 hg8 hB5 hB6 hb hb8 y9 P1 P2 hO8
  go_wp2_with fail
  go_loopw [6, 7, 8, 9] (fun v j _ _ wr => ∃ k : Nat, j = .int .i64 k ∧ k ≤ n ∧ wr.ownsRow w1.heap.size 5 1 v (T k).length ((T k).map (Value.int .u8)) ∧ Below w1.heap.size w8 wr) (fun _ j _ _ _ => n - (intOf j).toNat)
  case atStart => exact ⟨0, rfl, Nat.zero_le _, HO8.out, Below.refl _ _⟩
  case round =>
    obtain ⟨k, rfl, hk, hO, hB⟩ := hrel
    have yr := y8.below hlt1 hB
    by_cases hkn : k < n
    · have hkI : (k : Int) < n := by omega
      have hk0 : (0 : Int) ≤ (k : Int) := by omega
      have hkD : k < C.dict.length := by rw [← Hn.out]; exact hkn
      have hHD := (HD.out.below (Hb1.out.trans ((HB8.out.trans hB).mono Hb1.out.size)))
      obtain ⟨e, f, hA, heB, d0, d1, d2, d3, hv1⟩ := hHD.cells (j := k) hkD rfl
      subst hA
      have hT := HT1.out k hkD
      have hmay := HM.out (C.dict.getD k default) (by rw [List.getD_eq_getElem?_getD, List.getElem?_eq_getElem hkD]; exact List.getElem_mem hkD)
      obtain ⟨y, hy⟩ : ∃ y, y = C.dict.getD k default := ⟨_, rfl⟩
      rw [← hy] at d0 d1 d2 d3 hv1 hT hmay
      obtain ⟨vk, vi, vs, vb⟩ := y
      have hkd := may_kind hmay
      simp only [] at hkd
      have hwk : IntKind.u8.wrap vk = vk := by
        have : vk = 0 ∨ vk = 1 ∨ vk = 2 ∨ vk = 3 := by omega
        rcases this with rfl | rfl | rfl | rfl <;> rfl
      have hmb := (Vc.mayB_iff vk vi vs vb).2 hmay
      have hput : Vc.putR vk vi vs vb = Va.put ⟨vk, vi, vs, vb⟩ := by unfold Vc.putR; rw [hmb]; rfl
      have hbd := bounds_i64 hv1.w1
      have Cp := Vc.refPutV_new vk vi vs vb wr hbd.1 hbd.2
      rw [hput] at Cp
      have hpl := Va.put_len hmay
      obtain ⟨ds, hds⟩ : ∃ ds, ds = Va.put ⟨vk, vi, vs, vb⟩ := ⟨_, rfl⟩
      rw [← hds] at Cp hT hpl
      obtain ⟨er, her⟩ : ∃ er, er = Vc.putE vk vi vs vb := ⟨_, rfl⟩
      rw [← her] at Cp
      have CP := Lib.hid Cp
      have HT := Lib.hid hT
      have c1 := yr.c1
      have htl := HTl.out k
      have hOlt := hO.lt
      have HO := Lib.hid hO
      have HBr := Lib.hid hB
      have hsr := hB.size
      have heW : e < wr.heap.size := heB
      clear hT hmay hy hv1 hmb hput hbd Cp hds her hO hB hHD hkD
      go_wp2_with fail
      refine CP.out.mono ?_
      rintro e3 w3 ⟨A3, n3, c3, rfl, hS3, hB3, hnew⟩
      have hO3 := Wd.own_below HO.out hB3
      have hb3 : Below w1.heap.size w8 w3 := HBr.out.trans (hB3.mono (Nat.le_trans hs8 hsr))
      have y3 := yr.below yr.lt hB3
      have c1' := y3.c1
      have d0' := (hB3.cell (p := ⟨e, f + k * 4, none⟩) heW).trans d0
      have hA4 : Below w1.heap.size w8 (w3.alloc (.cells #[.int .u8 vk] 5)) := hb3.alloc (Nat.le_trans hs8 hb3.size) _
      have hO4 := hO3.alloc (.cells #[.int .u8 vk] 5)
      have hR4 : Wd.Rd (w3.alloc (.cells #[.int .u8 vk] 5)) (w3.heap.size + 1) .u8 (some ⟨w3.heap.size, 0, none⟩) [vk] := Wd.Rd.lit w3 .u8 [vk] 5 #[.int .u8 vk] rfl
      have hz4 := Nat.le_trans hs8 hA4.size
      have hS4 := hS3.below ((Below.refl w3.heap.size w3).alloc (Nat.le_refl _) (.cells #[.int .u8 vk] 5))
      have hne : ∀ a, A3 = some a → some a.block ≠ Value.ownBlock u6 := fun a ha q => by
        have h1 := hnew a ha
        have h2 := hOlt a.block q.symm
        omega
      clear c1 d0 d1 d2 d3 hB3 hO3 hS3
      go_wp2_with (first
        | (at_builtin; refine Wd.wpList_app _ rfl (.tmp 41) (.tmp 49) 32 rfl w1.heap.size 5 i0 _ .u8 1 Tryz.underlying32 hi hz0 hz1 hz2 rfl u6 (T k) rfl hO4 _ (some ⟨w3.heap.size, 0, none⟩) 1 1 [vk] rfl rfl (by simp) hR4 (by simp; omega) (by unfold maxLen; simp; omega) hz4 ?_; intro v5 w5 hO5 hg5; have hb5 : Below w1.heap.size w8 w5 := hA4.grown hg5 hz4 fun g hg => (hO4.lt g hg).1; have hS5 := sl_grown hS4 hg5 hne; have hz5 := Nat.le_trans hs8 hb5.size)
        | (at_builtin; refine Wd.wpList_app _ rfl (.tmp 51) (.tmp 52) 32 rfl w1.heap.size 5 i0 _ .u8 1 Tryz.underlying32 hi hz0 hz1 hz2 rfl v5 (T k ++ [vk]) rfl hO5 _ A3 n3 c3 ds rfl hS5.len hS5.nil hS5.rd (by simp; omega) (by unfold maxLen; simp; omega) hz5 ?_; intro v6 w6 hO6 hg6; have hb6 : Below w1.heap.size w8 w6 := hb5.grown hg6 hz5 fun g hg => (hO5.lt g hg).1))
      go_roundw
      case rel => exact ⟨k + 1, by go_num, by omega, by rw [HT.out]; exact hO6, hb6⟩
      case measure => simp [intOf]; omega
    · have hkI : ¬ (k : Int) < n := by omega
      obtain rfl : k = n := by omega
      have hI := HI.out.below (Hb1.out.trans ((HB8.out.trans hB).mono Hb1.out.size))
      have htl := HTl.out k
      have Hil := Lib.hid hI.len
      have hic := hI.cap
      have hnl := hI.nil
      have hrd := hI.rd
      clear hI
      have hsr := hB.size
      have hbr := Hb1.out.trans ((HB8.out.trans hB).mono Hb1.out.size)
      have hs1 := Hb1.out.size
      have hsw : w1.heap.size ≤ wr.heap.size := Nat.le_trans hs8 hsr
      have c1 := yr.c1
      have c2 := yr.c2
      go_wp2_with (at_builtin; refine Wd.wpList_app _ rfl (.tmp 54) (.tmp 56) 32 rfl w1.heap.size 5 i0 _ .u8 1 Tryz.underlying32 hi hz0 hz1 hz2 rfl u6 (T k) rfl hO _ B m d C.ids rfl Hil.out hnl hrd (by have := Hil.out; omega) (by unfold maxLen; have := Hil.out; omega) hsw ?_; intro v6 w6 hO6 hg6; have hb6 : Below w.heap.size w w6 := hbr.grown hg6 hbr.size fun g hg => Nat.le_trans hs1 (hO.lt g hg).1)
      go_ret2
      obtain ⟨A7, n7, c7, rfl, hS7⟩ := Wd.Sl.of_own hO6
      exact ⟨A7, n7, c7, rfl, hS7, hb6⟩
end Cx
namespace Fi
open Va (Vl May)
open Sc (Sch)
open Se (Seg Ok Sg LightG Lt)
open Wd (Cr)
theorem puts_byt {C : Co.Col} (h : Co.Valid C) (hd : C.dict.length ≤ 1000) (hI : ∀ v ∈ C.dict, Wd.V1 v) (hi : Bt.InR 8 C.ids) : Nm.Byt (Co.puts C) := by
  intro x hx
  unfold Co.puts at hx
  rcases List.mem_append.1 hx with hx | hx
  · rcases List.mem_append.1 hx with hx | hx
    · rcases List.mem_append.1 hx with hx | hx
      · exact Nm.vd_byt C.n h.n0 (by have := h.n1; omega) x hx
      · exact Nm.vd_byt (C.dict.length : Int) (by omega) (by omega) x hx
    · unfold Co.putD at hx
      obtain ⟨v, hv, hx⟩ := List.mem_flatMap.1 hx
      rcases List.mem_cons.1 hx with rfl | hx
      · have := Cx.may_kind (h.ris.1 v hv)
        omega
      · have hb := bounds_i64 (hI v hv).w1
        exact Va.put_byt (h.ris.1 v hv) hb.1 hb.2 x hx
  · have := hi x hx
    rw [show (2 : Int) ^ 8 = 256 by decide] at this
    omega
section
variable {w : World} {OA : Option Addr} {on oc : Nat} {CA : Option Addr} {cn cc : Nat} {os : List Cr} {x : Seg} {s : Sch}
theorem lt_light (h : Sg w OA on oc CA cn cc os x) (hl : LightG x) : Lt os := by
  intro j hj
  obtain ⟨_, _, _, _, _, h1⟩ := h.cols.at_ j hj
  have hm : (os.getD j default).C ∈ x.cols := by
    rw [h.eq, ← Wd.cols_get, List.getD_eq_getElem?_getD, List.getElem?_eq_getElem (by rw [Wd.cols_len]; exact hj)]
    exact List.getElem_mem _
  have l := hl.2.2 _ hm
  have d := h1.dict.len
  have i := h1.ids.len
  have l1 := l.1
  have l2 := l.2.1
  exact ⟨by omega, by omega⟩
theorem cr_of (h : Sg w OA on oc CA cn cc os x) {c : Co.Col} (hc : c ∈ x.cols) : ∃ o : Cr, Wd.Cr1 w o ∧ o.C = c := by
  rw [h.eq] at hc
  obtain ⟨o, ho, rfl⟩ := List.mem_map.1 hc
  obtain ⟨j, hj, rfl⟩ := List.getElem_of_mem ho
  obtain ⟨_, _, _, _, _, h1⟩ := h.cols.at_ j hj
  rw [show os.getD j default = os[j] by simp [List.getD, hj]] at h1
  exact ⟨_, h1, rfl⟩
theorem cr_v1 {o : Cr} (h : Wd.Cr1 w o) : ∀ v ∈ o.C.dict, Wd.V1 v := fun v hv => by
  obtain ⟨j, hj, rfl⟩ := List.getElem_of_mem hv
  obtain ⟨_, _, _, _, _, h1⟩ := h.dict.at_ j hj
  rw [show o.C.dict.getD j default = o.C.dict[j] by simp [List.getD, hj]] at h1
  exact h1
structure Good (x : Seg) : Prop where
  nice : Nice x
  byts : Byts x
  room : Room x
  fine : Fr.Fine (pays x)
  v1 : ∀ c ∈ x.cols, Co.Valid c ∧ c.dict.length ≤ 200 ∧ ∀ v ∈ c.dict, Wd.V1 v
  len : (fileB x).length ≤ 930000
theorem light_good (h : Sg w OA on oc CA cn cc os x) (hok : Ok s x) (hl : LightG x) : Good x := by
  have hv : ∀ c ∈ x.cols, Co.Valid c ∧ c.dict.length ≤ 200 ∧ ∀ v ∈ c.dict, Wd.V1 v := fun c hc => by
    obtain ⟨o, h1, rfl⟩ := cr_of h hc
    exact ⟨(hok.cols _ hc).2, (hl.2.2 _ hc).1, cr_v1 h1⟩
  have hb : Byts x := fun c hc => by
    obtain ⟨o, h1, rfl⟩ := cr_of h hc
    exact puts_byt (hv _ hc).1 (by have := (hv _ hc).2.1; omega) (hv _ hc).2.2 h1.byt
  have hn : Nice x := ⟨hok.head, by have := hl.2.1; omega, hok.len, fun z hz => bounds_i64 (h.fit z hz), fun c hc => by
    obtain ⟨a, b, d⟩ := hv c hc
    exact ⟨a.n0, a.n1, by omega, fun v hv => ⟨a.ris.1 v hv, bounds_i64 (d v hv).w1⟩⟩⟩
  have hr : Room x := room hl.1 fun c hc => ⟨(hl.2.2 c hc).1, (hl.2.2 c hc).2.1, (hv c hc).1.ris.1⟩
  refine ⟨hn, hb, hr, pays_fine hn hb hr, hv, ?_⟩
  have := Fr.cat_len (l := pays x) (n := 65536) hr
  rw [pays_len] at this
  have h12 := hl.2.1
  have : (2 + x.cols.length) * (65536 + 14) ≤ 14 * (65536 + 14) := Nat.mul_le_mul_right _ (by omega)
  unfold fileB
  omega
end
theorem file_byt {x : Seg} (hx : Good x) : Nm.Byt (fileB x) := Fr.cat_byt hx.fine
end Fi
namespace Fi
open Nc
open Se (Seg Sg Gb)
open Wd (Cr)
def hns (x : Seg) : List Int := [x.part, x.id, x.st, x.en, (x.cols.length : Int)]
def hdk (x : Seg) (k : Nat) : List Int := ((hns x).take k).flatMap Nm.vd
theorem hdk_next (x : Seg) (k : Nat) (h : k < 5) : hdk x (k + 1) = hdk x k ++ Nm.vd ((hns x).getD k 0) := by
  unfold hdk
  rw [Rn.take_next (hns x) k 0 (by simp [hns]; omega), List.flatMap_append]
  simp
theorem hdk_all (x : Seg) : hdk x 5 = head x := by simp [hdk, hns, head]
theorem hdk_len (x : Seg) : ∀ k, k ≤ 5 → (hdk x k).length ≤ 10 * k
  | 0, _ => by simp [hdk]
  | k + 1, h => by
    rw [hdk_next x k (by omega), List.length_append]
    have := hdk_len x k (by omega)
    have := (Nm.vd_len ((hns x).getD k 0)).2
    omega
theorem hns_in {x : Seg} (h : Se.Head x) (hc : x.cols.length ≤ 1000000) (k : Nat) (hk : k < 5) : 0 ≤ (hns x).getD k 0 ∧ (hns x).getD k 0 ≤ 9223372036854775807 := by
  obtain ⟨x1, x2, x3, x4, x5, x6, x7⟩ := h
  match k, hk with
  | 0, _ => exact ⟨x1, show x.part ≤ _ by omega⟩
  | 1, _ => exact ⟨show 0 ≤ x.id by omega, show x.id ≤ _ by omega⟩
  | 2, _ => exact ⟨x5, show x.st ≤ _ by omega⟩
  | 3, _ => exact ⟨show 0 ≤ x.en by omega, show x.en ≤ _ by omega⟩
  | 4, _ => exact ⟨show 0 ≤ (x.cols.length : Int) by omega, show (x.cols.length : Int) ≤ _ by omega⟩
set_option maxHeartbeats 4000000 in
theorem head_any (OA : Option Addr) (on oc : Nat) (CA : Option Addr) (cn cc : Nat) (x : Seg) (w : World) (hn : cn = x.cols.length) (hc : cn ≤ 1000000) (h : Se.Head x) :
    Calls Tryz.prog 47 #[.agg #[.int .i64 x.part, .int .i64 x.id, .int .i64 x.st, .int .i64 x.en, .slice OA on oc, .slice CA cn cc]] w (Wd.Out w .u8 (head x)) := by
  have x0 := Gb.new w x.part x.id x.st x.en OA on oc CA cn cc
  have b0 := (Below.refl w.heap.size w).alloc (Nat.le_refl _) (.cells #[.int .i64 x.part, .int .i64 x.id, .int .i64 x.st, .int .i64 x.en, .slice OA on oc, .slice CA cn cc] 28)
  obtain ⟨w1, hw1⟩ : ∃ w1, w1 = w.alloc (.cells #[.int .i64 x.part, .int .i64 x.id, .int .i64 x.st, .int .i64 x.en, .slice OA on oc, .slice CA cn cc] 28) := ⟨_, rfl⟩
  rw [← hw1] at x0 b0
  have r0 : Wd.Row (w1.alloc (.cells #[.int .i64 x.part, .int .i64 x.id, .int .i64 x.st, .int .i64 x.en, .int .i64 (cn : Int)] 3)) w1.heap.size .i64 3 (hns x) := by
    rw [hn]
    exact Wd.Bx.new w1 _ _
  have b1 := b0.alloc b0.size (.cells #[.int .i64 x.part, .int .i64 x.id, .int .i64 x.st, .int .i64 x.en, .int .i64 (cn : Int)] 3)
  obtain ⟨d0, d1, d2, d3, d4, d5⟩ := x0.six
  obtain ⟨w2, hw2⟩ : ∃ w2, w2 = w1.alloc (.cells #[.int .i64 x.part, .int .i64 x.id, .int .i64 x.st, .int .i64 x.en, .int .i64 (cn : Int)] 3) := ⟨_, rfl⟩
  rw [← hw2] at r0 b1
  have Hw1 := Lib.hid hw1
  have Hw2 := Lib.hid hw2
  have R0 := Lib.hid r0
  have B1 := Lib.hid b1
  have Hin := Lib.hid (hns_in h (by rw [← hn]; exact hc))
  clear hw1 hw2 x0 b0 r0 b1 h hn
  go_enter Tryz.func47, Tryz.ntmps47
  go_upto_region 1 with fail
  rw [← Hw1.out]
  go_wp2_with fail
  rw [← Hw2.out]
  go_loopw [3, 19] (fun v i wr => ∃ k : Nat, i = .int .i64 k ∧ k ≤ 5 ∧ ∃ A n c, v = .slice A n c ∧ Hid (Wd.Sl wr .u8 A n c (hdk x k)) ∧ Hid (Below w2.heap.size w2 wr)) (fun _ i _ => 5 - (intOf i).toNat)
  case atStart => exact ⟨0, rfl, Nat.zero_le _, none, 0, 0, rfl, Lib.hid (Wd.Sl.none_ _ _), Lib.hid (Below.refl _ _)⟩
  case round =>
    clear d0 d1 d2 d3 d4 d5
    obtain ⟨k, rfl, hk, A, n, c, rfl, hS, hb⟩ := hrel
    by_cases hlt : k < 5
    · have hkI : (k : Int) < 5 := by omega
      have hd := (R0.out.below R0.out.lt hb.out).cell k hlt
      obtain ⟨z, hz⟩ : ∃ z, z = (hns x).getD k 0 := ⟨_, rfl⟩
      rw [← hz] at hd
      have hzi := Hin.out k hlt
      rw [← hz] at hzi
      have hl := hdk_len x k hk
      have C := Lib.hid (putLen_any A n c (hdk x k) z wr hS.out (by rw [hS.out.len]; omega) (by omega) hzi.2)
      rw [if_neg (by omega)] at C
      have Hz := Lib.hid hz
      clear hz hzi hl
      go_wp2_with fail
      refine C.out.mono ?_
      rintro e w3 ⟨A3, n3, c3, rfl, hS3, hB3⟩
      rw [Hz.out, ← hdk_next x k hlt] at hS3
      have HS3 := Lib.hid hS3
      have HB3 := Lib.hid (hb.out.trans (hB3.mono hb.out.size))
      clear hS3 hB3 hd C
      go_wp2_with fail
      go_roundw
      case rel => exact ⟨k + 1, by go_num, by omega, A3, n3, c3, rfl, HS3, HB3⟩
      case measure => simp [intOf]; omega
    · have hkI : ¬ (k : Int) < 5 := by omega
      obtain rfl : k = 5 := by omega
      go_wp2_with fail
      go_ret
      refine ⟨A, n, c, rfl, ?_, B1.out.trans (hb.out.mono B1.out.size)⟩
      have := hS.out
      rwa [hdk_all] at this
end Fi
namespace Wd
def Gs (w : World) (us : List Value) (ys : List (List Int)) : Prop :=
  us.length = ys.length ∧ ∀ j, j < ys.length → ∃ A n c, us[j]? = some (.slice A n c) ∧ Sl w .u8 A n c (ys.getD j [])
theorem Gs.below {w w' : World} {us : List Value} {ys : List (List Int)} (h : Gs w us ys) (hb : Below w.heap.size w w') : Gs w' us ys :=
  ⟨h.1, fun j hj => by
    obtain ⟨A, n, c, e, hs⟩ := h.2 j hj
    exact ⟨A, n, c, e, hs.below hb⟩⟩
theorem Gs.app {w : World} {us vs : List Value} {ys zs : List (List Int)} (h : Gs w us ys) (k : Gs w vs zs) : Gs w (us ++ vs) (ys ++ zs) := by
  refine ⟨by rw [List.length_append, List.length_append, h.1, k.1], fun j hj => ?_⟩
  rw [List.length_append] at hj
  by_cases q : j < ys.length
  · obtain ⟨A, n, c, e, hs⟩ := h.2 j q
    refine ⟨A, n, c, by rw [List.getElem?_append_left (by rw [h.1]; exact q)]; exact e, ?_⟩
    rwa [show (ys ++ zs).getD j [] = ys.getD j [] by simp only [List.getD]; rw [List.getElem?_append_left q]]
  · obtain ⟨A, n, c, e, hs⟩ := k.2 (j - ys.length) (by omega)
    refine ⟨A, n, c, by rw [List.getElem?_append_right (by rw [h.1]; omega), h.1]; exact e, ?_⟩
    rwa [show (ys ++ zs).getD j [] = zs.getD (j - ys.length) [] by simp only [List.getD]; rw [List.getElem?_append_right (by omega)]]
end Wd
end Go.Proofs.YtaoeipehpakngaaGreatDoor
namespace Go.Proofs.YtaoeipehpakngaaGreatDoor
set_option maxRecDepth 20000
open Go.RowKit Go.Maps
namespace Wd
def nils : Value := .slice none 0 0
def OwB (w : World) (B : Nat) (v : Value) (us : List Value) : Prop :=
  ∃ g cap, v = .slice (some ⟨g, 0, none⟩) us.length cap ∧ B ≤ g ∧ us.length ≤ cap ∧ cap ≤ maxLen ∧ Bx w g 32 (us ++ List.replicate (cap - us.length) nils).toArray
theorem info_ls : (Tryz.prog.info? 32).map (fun i => (i.zero, i.size, i.bytes)) = some (some (.slice none 0 0), 1, 24) := by kernel_rfl
theorem OwB.block {w : World} {B : Nat} {v : Value} {us : List Value} (h : OwB w B v us) {g : Nat} (hg : v.ownBlock = some g) : B ≤ g ∧ ∃ k, Bx w g 32 (us ++ List.replicate k nils).toArray := by
  obtain ⟨g', cap, rfl, h1, _, _, h2⟩ := h
  cases hg
  exact ⟨h1, _, h2⟩
theorem OwB.keep {w w' : World} {B : Nat} {v : Value} {us : List Value} {G : Nat → Prop} (h : OwB w B v us) (mv : Mv G w w') (hn : ∀ g, v.ownBlock = some g → ¬ G g) : OwB w' B v us := by
  obtain ⟨g, cap, rfl, h1, h2, h3, h4⟩ := h
  exact ⟨g, cap, rfl, h1, h2, h3, (mv.keep g h4.lt (hn g rfl)).trans h4⟩
theorem OwB.below {w w' : World} {B : Nat} {v : Value} {us : List Value} (h : OwB w B v us) (hb : Below w.heap.size w w') : OwB w' B v us := h.keep (Mv.of_below (G := fun _ => False) hb) fun _ _ z => z
theorem OwB.lit (w : World) (B : Nat) (us : List Value) (hB : B ≤ w.heap.size) (hm : us.length ≤ maxLen) : OwB (w.alloc (.cells us.toArray 32)) B (.slice (some ⟨w.heap.size, 0, none⟩) us.length us.length) us :=
  ⟨_, _, rfl, hB, Nat.le_refl _, hm, by
    rw [Nat.sub_self, List.replicate_zero, List.append_nil]
    exact Bx.new w _ _⟩
theorem zeros_nil (n : Nat) : (Builtin.zeroCells (Value.slice none 0 0).cells n).toList = List.replicate n nils := by
  refine List.ext_getElem (by simp [Builtin.zeroCells, Value.cells]) fun i h1 h2 => ?_
  simp [Builtin.zeroCells, Value.cells, nils, Nat.mod_one]
theorem Gs.nob {w : World} {us : List Value} {ys : List (List Int)} (h : Gs w us ys) (k : Nat) : ∀ v ∈ us ++ List.replicate k nils, ∀ x, v ≠ .int .u8 x := fun v hv x => by
  rcases List.mem_append.1 hv with q | q
  · obtain ⟨j, hj, rfl⟩ := List.getElem_of_mem q
    obtain ⟨A, n, c, e, _⟩ := h.2 j (by rw [← h.1]; exact hj)
    rw [List.getElem?_eq_getElem hj, Option.some.injEq] at e
    rw [e]
    simp
  · rw [List.eq_of_mem_replicate q]
    simp [nils]
theorem Sl.stay {w w' : World} {A : Option Addr} {n c : Nat} {ys : List Int} {G : Nat → Prop} (h : Sl w .u8 A n c ys) (mv : Mv G w w') (hG : ∀ g, G g → ∃ (t : TypeId) (cs : List Value), Bx w g t cs.toArray ∧ ∀ v ∈ cs, ∀ x, v ≠ .int .u8 x) : Sl w' .u8 A n c ys :=
  h.keep mv fun a ha hn q => by
    obtain ⟨t, cs, hb, h1⟩ := hG _ q
    exact h.apart hb h1 a ha hn rfl
theorem Gs.stay {w w' : World} {us : List Value} {ys : List (List Int)} {G : Nat → Prop} (h : Gs w us ys) (mv : Mv G w w') (hG : ∀ g, G g → ∃ (t : TypeId) (cs : List Value), Bx w g t cs.toArray ∧ ∀ v ∈ cs, ∀ x, v ≠ .int .u8 x) : Gs w' us ys :=
  ⟨h.1, fun j hj => by
    obtain ⟨A, n, c, e, hs⟩ := h.2 j hj
    exact ⟨A, n, c, e, hs.stay mv hG⟩⟩
theorem Gs.grown {w w' : World} {B : Nat} {v : Value} {us vs : List Value} {ys zs : List (List Int)} (h : Gs w vs zs) (k : OwB w B v us) (hu : Gs w us ys) (hg : w.grownBy w' v.ownBlock) : Gs w' vs zs :=
  h.stay (Mv.of_grown (G := fun x => v.ownBlock = some x) hg fun _ e => e) fun g q => by
    obtain ⟨_, n, hb⟩ := k.block q
    exact ⟨_, _, hb, hu.nob n⟩
theorem Gs.one_ {w : World} {A : Option Addr} {n c : Nat} {y : List Int} (h : Sl w .u8 A n c y) : Gs w [.slice A n c] [y] := ⟨rfl, fun j hj => by
  obtain rfl : j = 0 := by simpa using hj
  exact ⟨A, n, c, rfl, h⟩⟩
theorem Gs.two {w : World} {A : Option Addr} {n c : Nat} {y : List Int} {B : Option Addr} {m d : Nat} {z : List Int} (h : Sl w .u8 A n c y) (k : Sl w .u8 B m d z) : Gs w [.slice A n c, .slice B m d] [y, z] := (Gs.one_ h).app (Gs.one_ k)
theorem OwB.ss {w : World} {B : Nat} {A : Option Addr} {n c : Nat} {us : List Value} {ys : List (List Int)} (h : OwB w B (.slice A n c) us) (k : Gs w us ys) : Ss w A n c ys := by
  obtain ⟨g, cap, e, h2, h3, h4, h5⟩ := h
  cases e
  refine ⟨k.1, h3, h4, by simp, fun j hj => ?_⟩
  obtain ⟨A', n', c', e, hs⟩ := k.2 j hj
  refine ⟨g, 0, A', n', c', rfl, h5.lt, ?_, hs⟩
  rw [Nat.zero_add, h5.cell, List.getElem?_toArray, List.getElem?_append_left (by rw [k.1]; exact hj)]
  exact e
set_option maxHeartbeats 2000000 in
theorem run_appB (w : World) (ty : TypeId) (B : Nat) (v : Value) (us : List Value) (hown : OwB w B v us) (ad : Addr) (u : Value) (hc : w.cell? (ad.add 0) = some u) (h1 : u.oneCell' = true) (hL : us.length ≤ 1000000) (hB : B ≤ w.heap.size) :
    ∃ A c w', (Builtin.append_ #[58, 58] ty #[v, .slice (some ad) 1 1]).run Tryz.prog w = .ok (.slice A (us.length + 1) c) w' ∧ OwB w' B (.slice A (us.length + 1) c) (us ++ [u]) ∧ w.grownBy w' v.ownBlock := by
  obtain ⟨i0, hi, hz0, hz1, hz2⟩ := info_parts info_ls
  have hsz : (us ++ [u]).length = us.length + 1 := by simp
  have hvs : [u].length = 1 * i0.size := by rw [hz1]; rfl
  have hc' : ∀ j x, [u][j]? = some x → w.cell? (ad.add j) = some x := fun j x hx => by
    have hj : j < 1 := by simpa using (List.getElem?_eq_some_iff.1 hx).1
    obtain rfl : j = 0 := by omega
    simp only [List.getElem?_cons_zero, Option.some.injEq] at hx
    rw [hc, hx]
  have h1' : ∀ x ∈ [u], x.oneCell' = true := fun x hx => by
    obtain rfl : x = u := by simpa using hx
    exact h1
  obtain ⟨g, cap, rfl, h1, h2, h3, h4⟩ := hown
  by_cases hroom : us.length + 1 ≤ cap
  · obtain ⟨q, hq⟩ : ∃ q, cap - us.length = q + 1 := ⟨cap - us.length - 1, by omega⟩
    have hb : w.heap[g]? = some (.cells (us ++ List.replicate (cap - us.length) nils).toArray 32 (0, 0)) := h4
    have hr := run_append_room (P := Tryz.prog) w 58 ty 32 i0 Tryz.underlying58 hi g us.length cap _ hb ad 1 1 [u] hvs hc' h1' hroom (by
      rw [hz1]
      simp only [List.size_toArray, List.length_append, List.length_replicate]
      omega)
    refine ⟨_, _, _, hr, ⟨g, cap, by rw [hsz], h1, by rw [hsz]; exact hroom, h3, ?_⟩, ⟨rfl, rfl, rfl, by simp, fun k _ hk => setRow_other w g k _ (fun e => hk (by simp [Value.ownBlock, e]))⟩⟩
    have := setRow_heap w g _ (List.take (us.length * i0.size) (us ++ List.replicate (cap - us.length) nils).toArray.toList ++ [u] ++ List.drop (us.length * i0.size + [u].length) (us ++ List.replicate (cap - us.length) nils).toArray.toList).toArray _ _ hb
    unfold Bx
    rw [this]
    congr 3
    rw [hz1, hsz, Nat.mul_one, show cap - (us.length + 1) = q by omega, hq, List.replicate_succ]
    rw [List.take_left, show us ++ nils :: List.replicate q nils = (us ++ [nils]) ++ List.replicate q nils by simp, show us.length + [u].length = (us ++ [nils]).length by simp, List.drop_left]
  · have holds : ∀ j x, us[j]? = some x → w.cell? ((⟨g, 0, none⟩ : Addr).add j) = some x := fun j x hx => by
      rw [Addr.add_lit, Nat.zero_add, h4.cell, List.getElem?_toArray, List.getElem?_append_left (List.getElem?_eq_some_iff.1 hx).1]
      exact hx
    have hr := run_append_grow (P := Tryz.prog) w 58 ty 32 i0 _ Tryz.underlying58 hi hz0 ⟨g, 0, none⟩ us.length cap us (by rw [hz1]; omega) holds ad 1 1 [u] hvs hc' (by omega) (by omega) (growslice_fits (by omega) (by rw [hz2]; omega))
    refine ⟨_, _, _, hr, ?_, ⟨rfl, rfl, rfl, by simp, fun k hk _ => Below.heap_alloc w.drew _ k hk⟩⟩
    refine ⟨w.heap.size, grownCap w (us.length + 1) cap 32, by rw [hsz], hB, by rw [hsz]; exact grownCap_ge _ _ _ _, grownCap_le_maxLen w _ _ _ (by unfold maxLen; omega), ?_⟩
    rw [hsz]
    have e : us.toArray ++ [u].toArray ++ Builtin.zeroCells (Value.slice none 0 0).cells (grownCap w (us.length + 1) cap 32 - (us.length + 1)) = (us ++ [u] ++ List.replicate (grownCap w (us.length + 1) cap 32 - (us.length + 1)) nils).toArray := by
      apply Array.ext'
      rw [Array.toList_append, Array.toList_append, zeros_nil]
    rw [e]
    exact Bx.new w.drew _ _
theorem wpList_appB (w : World) {ops : Array Oper} {rest : List Oper} {o : Oper} {a : Act} {Q : Exit → Act → World → Prop} (hgd : o.guard = none) (s x : Operand)
    (ho : o.op = .call { callee := .builtin .append, args := #[s, x], argTypes := #[58, 58] })
    (B : Nat) (v : Value) (us : List Value) (hs : a.eval s = v) (hown : OwB w B v us) (ad : Addr) (u : Value) (hx : a.eval x = .slice (some ad) 1 1) (hc : w.cell? (ad.add 0) = some u) (h1 : u.oneCell' = true) (hL : us.length ≤ 1000000) (hB : B ≤ w.heap.size)
    (h : ∀ A c w', OwB w' B (.slice A (us.length + 1) c) (us ++ [u]) → w.grownBy w' v.ownBlock → wpList Tryz.prog ops Q rest (a.put o.dst (.slice A (us.length + 1) c)) w') : wpList Tryz.prog ops Q (o :: rest) a w := by
  refine wpList_plain hgd fun K hK => ?_
  obtain ⟨A, c, w', hrun, h2, h3⟩ := run_appB w o.type B v us hown ad u hc h1 hL hB
  unfold Oper.wp
  simp [execOp, ho, resolve, invoke, builtin, hs, hx, hrun, Result.andThen]
  exact hK _ _ (h A c w' h2 h3)
end Wd
end Go.Proofs.YtaoeipehpakngaaGreatDoor
