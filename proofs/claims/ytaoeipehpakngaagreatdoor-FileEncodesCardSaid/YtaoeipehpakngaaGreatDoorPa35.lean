/- What value.Put does, with whose memory the bytes are. Package column: Put. Package file: the payloads of a segment's file. What Seal of package frame does. What slices.Sorted and slices.Sort of integers are at this program: the numbers of what the library speaks of, as its contracts ask them. -/
import Derived.Shelf.SlIterI.Sorted
import Derived.Shelf.SortM.Plain
import Derived.Shelf.SortM.SortNone
import Derived.Ground.GgzProg
import Derived.Ground.SlgmProg
import Derived.Test.YtaoeipehpakngaaGreatDoorPa08
import Derived.Test.YtaoeipehpakngaaGreatDoorPa18
import Derived.Test.YtaoeipehpakngaaGreatDoorPa24
import Derived.Test.YtaoeipehpakngaaGreatDoorPa27
import Derived.Test.YtaoeipehpakngaaGreatDoorPa31
import Derived.Test.YtaoeipehpakngaaGreatDoorPa05
import Derived.Test.YtaoeipehpakngaaGreatDoorProg
namespace Go.Proofs.YtaoeipehpakngaaGreatDoor
set_option maxRecDepth 20000
open Go.RowKit
namespace Vc
open Va Nc
theorem put_own (A : Option Addr) (m c : Nat) (bs : List Int) (n : Int) (w : World) (hb : Wd.Sl w .u8 A m c bs) (hm : m ≤ 10000000) (h0 : -9223372036854775808 ≤ n) (h1 : n ≤ 9223372036854775807) :
    Calls Tryz.prog 150 #[.slice A m c, .int .i64 n] w fun e w' => ∃ v, e = .returned v ∧ w'.ownsRow w.heap.size 5 1 v (bs ++ Nm.vd (Nm.zz n)).length ((bs ++ Nm.vd (Nm.zz n)).map (Value.int .u8)) ∧ Below w.heap.size w w' := by
  have hz0 := Nm.zz_lo n
  have hz1 := Nm.zz_hi n h0 h1
  obtain ⟨rfl, hc, _, _, hr⟩ := hb
  have Hp := Lib.hid (putVarint_own A c bs (Nm.zz n) w hr hc hm hz0 hz1)
  go_enter Tryz.func150, Tryz.ntmps150
  go_wp2_with fail
  refine (zigzag_any n w h0 h1).mono ?_
  rintro e w' ⟨rfl, rfl⟩
  go_wp2_with fail
  refine Hp.out.mono ?_
  rintro e w' ⟨v, rfl, hO⟩
  go_wp2_with fail
  go_ret
  exact ⟨v, rfl, hO⟩
def OutO (w : World) (L : List Int) (e : Ending) (w' : World) : Prop :=
  ∃ v, e = .returned (.tuple #[v, .int .i64 0]) ∧ w'.ownsRow w.heap.size 5 1 v L.length (L.map (Value.int .u8)) ∧ Below w.heap.size w w'
set_option maxHeartbeats 2000000 in
theorem Put_own (A : Option Addr) (n c : Nat) (bs : List Int) (k i : Int) (s : ByteArray) (b : Bool) (w : World) (hS : Wd.Sl w .u8 A n c bs) (hm : n ≤ 1000000) (h0 : -9223372036854775808 ≤ i) (h1 : i ≤ 9223372036854775807) (hM : May ⟨k, i, s, b⟩) :
    Calls Tryz.prog 94 #[.slice A n c, .agg #[.int .i64 k, .int .i64 i, .string s, .bool b]] w (OutO w (bs ++ Va.put ⟨k, i, s, b⟩)) := by
  obtain ⟨i0, hi, hz0, hz1, hz2⟩ := info_parts info_u8
  have hb0 := (Below.refl w.heap.size w).alloc (Nat.le_refl _) (.cells #[.int .i64 k, .int .i64 i, .string s, .bool b] 47)
  have v0 : Vb (w.alloc (.cells #[.int .i64 k, .int .i64 i, .string s, .bool b] 47)) w.heap.size k i s b := Wd.Bx.new w _ _
  have Cm := Lib.hid fun w => may_any k i s b w
  rw [(mayB_iff k i s b).2 hM] at Cm
  unfold May at hM
  simp only [] at hM
  rcases hM with ⟨rfl, rfl, rfl, rfl⟩ | ⟨rfl, rfl, rfl⟩ | ⟨rfl, rfl, hs, rfl⟩ | ⟨rfl, rfl, rfl⟩
  · rw [show bs ++ Va.put ⟨0, 0, ⟨#[]⟩, false⟩ = bs by simp [Va.put]]
    go_enter Tryz.func94, Tryz.ntmps94
    go_wp2_with fail
    refine (Cm.out _).mono ?_
    rintro e w2 ⟨rfl, hB2⟩
    have hb2 := hb0.trans (hB2.mono hb0.size)
    obtain ⟨⟨u0, u1, u2, u3⟩, -⟩ := four (v0.below (Wd.Bx.lt v0) hB2)
    go_wp2_with fail
    refine (clone_own A n c bs w2 (hS.below hb2) (by omega)).mono ?_
    rintro e w3 ⟨v3, rfl, hO3, hB3⟩
    go_wp2_with fail
    go_ret2
    exact ⟨v3, rfl, Wd.own_down hO3 hb2.size, hb2.trans (hB3.mono hb2.size)⟩
  · rw [show bs ++ Va.put ⟨1, i, ⟨#[]⟩, false⟩ = bs ++ Nm.vd (Nm.zz i) by simp [Va.put]]
    go_enter Tryz.func94, Tryz.ntmps94
    go_wp2_with fail
    refine (Cm.out _).mono ?_
    rintro e w2 ⟨rfl, hB2⟩
    have hb2 := hb0.trans (hB2.mono hb0.size)
    obtain ⟨⟨u0, u1, u2, u3⟩, -⟩ := four (v0.below (Wd.Bx.lt v0) hB2)
    go_wp2_with fail
    refine (put_own A n c bs i w2 (hS.below hb2) (by omega) h0 h1).mono ?_
    rintro e w3 ⟨v3, rfl, hO3, hB3⟩
    go_wp2_with fail
    go_ret2
    exact ⟨v3, rfl, Wd.own_down hO3 hb2.size, hb2.trans (hB3.mono hb2.size)⟩
  · rw [show bs ++ Va.put ⟨2, 0, s, false⟩ = (bs ++ Nm.vd (s.size : Int)) ++ byts s by simp [Va.put]]
    have hvl := Nm.vd_len (s.size : Int)
    have Hn := Lib.hid hS.len
    have Hp := Lib.hid fun w' (hb : Below w.heap.size w w') => putLen_own A n c bs (s.size : Int) w' (hS.below hb) (by omega) (by omega) (by omega)
    have HS := Lib.hid hS
    have hl8 : (bs ++ Nm.vd (s.size : Int)).length ≤ 1000010 := by rw [List.length_append, ← Hn.out]; omega
    obtain ⟨vs, hvs⟩ : ∃ vs, vs = bs ++ Nm.vd (s.size : Int) := ⟨_, rfl⟩
    rw [← hvs] at Hp hl8 ⊢
    clear hS hvs hvl Hn
    go_enter Tryz.func94, Tryz.ntmps94
    go_wp2_with fail
    refine (Cm.out _).mono ?_
    rintro e w2 ⟨rfl, hB2⟩
    have hb2 := hb0.trans (hB2.mono hb0.size)
    have v2 := v0.below (Wd.Bx.lt v0) hB2
    have hl2 := Wd.Bx.lt v2
    obtain ⟨⟨u0, u1, u2, u3⟩, -⟩ := four v2
    have Hv2 := Lib.hid v2
    have Hb2 := Lib.hid hb2
    clear v0 v2 hb0 hB2 Cm hb2
    go_upto_region 7 with fail
    go_region_held3 (fun w' => w'.cell? ⟨w.heap.size, 2, none⟩ = some (.string s)) (first | exact hc4 | exact hc3 | go_keep) (first | (refine step_app_str _ rfl (.tmp 23) (.tmp 25) 32 9 rfl w2.heap.size 5 i0 Tryz.underlying32 Tryz.underlying9 hi hz0 hz1 hz2 v3 vs rfl hO3 s rfl (by unfold maxLen; omega) (by omega) hb3.size ?_; intro v4 w4 hO4 hg4; have hb4 : Below w2.heap.size w2 w4 := hb3.grown hg4 hb3.size fun g hg => (hO3.lt g hg).1; have hc4 := (hb4.cell (p := ⟨w.heap.size, 2, none⟩) hl2).trans u2) | (go_at_call 50; (with_reducible refine (Hp.out _ (Hb2.out.drew)).mono ?_); rintro e w3 ⟨v3, rfl, hO3, hB3⟩; have hb3 : Below w2.heap.size w2 w3 := Wd.of_drew hB3; have hc3 := (hb3.cell (p := ⟨w.heap.size, 2, none⟩) hl2).trans u2))
    go_wp2_with fail
    go_ret2
    exact ⟨v4, rfl, Wd.own_down hO4 Hb2.out.size, Hb2.out.trans (hb4.mono Hb2.out.size)⟩
  · rw [show bs ++ Va.put ⟨3, 0, ⟨#[]⟩, b⟩ = bs ++ [dg b] by simp [Va.put, dg]]
    have Hn := Lib.hid hS.len
    have Hp := Lib.hid fun w' (hb : Below w.heap.size w w') => clone_own A n c bs w' (hS.below hb) (by omega)
    have hl8 : bs.length ≤ 1000000 := by rw [← Hn.out]; omega
    have Cd := Lib.hid fun w => digit_any b w
    obtain ⟨d, hd⟩ : ∃ d, d = dg b := ⟨_, rfl⟩
    rw [← hd] at Cd ⊢
    clear hS Hn hd
    go_enter Tryz.func94, Tryz.ntmps94
    go_wp2_with fail
    refine (Cm.out _).mono ?_
    rintro e w2 ⟨rfl, hB2⟩
    have hb2 := hb0.trans (hB2.mono hb0.size)
    have v2 := v0.below (Wd.Bx.lt v0) hB2
    have hl2 := Wd.Bx.lt v2
    obtain ⟨⟨u0, u1, u2, u3⟩, -⟩ := four v2
    have Hv2 := Lib.hid v2
    have Hb2 := Lib.hid hb2
    clear v0 v2 hb0 hB2 Cm hb2
    go_upto_region 9 with fail
    go_region_held3 (fun w' => w'.cell? ⟨w.heap.size, 3, none⟩ = some (.bool b)) (first | exact hc4 | exact hc3 | go_keep) (first | (refine Wd.step_app _ rfl (.tmp 30) (.tmp 34) 32 rfl w2.heap.size 5 i0 _ .u8 1 Tryz.underlying32 hi hz0 hz1 hz2 rfl v3 bs rfl (Wd.own_below hO3 ((Below.refl _ _).alloc (Nat.le_refl _) (.cells #[.int .u8 d] 5))) (w3.heap.size + 1) (some ⟨w3.heap.size, 0, none⟩) 1 1 [d] (by rfl) rfl (by simp) (Wd.Rd.lit w3 .u8 [d] 5 #[.int .u8 d] rfl) (by simp; omega) (by unfold maxLen; simp; omega) (by simp; omega) ?_; intro v4 w4 hO4 hg4; have hb4 : Below w2.heap.size w2 w4 := (hb3.alloc hb3.size (.cells #[.int .u8 d] 5)).grown hg4 (by simp; omega) fun g hg => (hO3.lt g hg).1; have hc4 := (hb4.cell (p := ⟨w.heap.size, 3, none⟩) hl2).trans u3) | (go_at_call 151; (with_reducible refine (Cd.out _).mono ?_); rintro e w5 ⟨rfl, hw5⟩; have hq5 := hw5.symm; clear hw5; subst hq5) | (go_at_call 96; (with_reducible refine (Hp.out _ (Hb2.out.drew)).mono ?_); rintro e w3 ⟨v3, rfl, hO3, hB3⟩; have hb3 : Below w2.heap.size w2 w3 := Wd.of_drew hB3; have hsz3 := hb3.size; have hc3 := (hb3.cell (p := ⟨w.heap.size, 3, none⟩) hl2).trans u3))
    go_wp2_with fail
    go_ret2
    exact ⟨v4, rfl, Wd.own_down hO4 Hb2.out.size, Hb2.out.trans (hb4.mono Hb2.out.size)⟩
end Vc
namespace Cx
open Va (Vl May ord null)
open Sc (tr tr_yes tr_no tr_iff)
open Co
set_option maxHeartbeats 8000000 in
theorem cput_any (A : Option Addr) (n c : Nat) (B : Option Addr) (m d : Nat) (C : Col) (w : World) (h : Cl w A n c B m d C) (hn : n ≤ 1000) (hm : m ≤ 1000000) :
    Calls Tryz.prog 48 #[.agg #[.int .i64 C.n, .slice A n c, .slice B m d]] w (Wd.Out2 w .u8 (put C).1 (put C).2) := by
  obtain ⟨i0, hi, hz0, hz1, hz2⟩ := info_parts info_y
  have hb0 := (Below.refl w.heap.size w).alloc (Nat.le_refl _) (.cells #[.int .i64 C.n, .slice A n c, .slice B m d] 57)
  have x0 := Cb.new w C.n A n c B m d
  have C1 := Lib.hid (cmay_any A n c B m d C _ (h.below hb0) hn hm)
  have Hb0 := Lib.hid hb0
  have HD := Lib.hid h.dict
  have HI := Lib.hid h.ids
  have Hn := Lib.hid h.dict.len
  have Hm := Lib.hid h.ids.len
  have hcap := h.dict.cap
  have hmx := h.dict.max
  have hcap2 := h.ids.cap
  have hmx2 := h.ids.max
  unfold maxLen at hmx hmx2
  have n1 := h.n1
  by_cases hv : Valid C
  case neg =>
    rw [put_no hv]
    have et := tr_no hv
    rw [et] at C1
    clear h hb0 hv et
    have c0 := x0.c0
    have c1 := x0.c1
    have c2 := x0.c2
    obtain ⟨N, hN⟩ : ∃ N, N = C.n := ⟨_, rfl⟩
    rw [← hN] at C1 Hb0 c0 c1 c2 ⊢
    clear hN x0 n1
    go_enter Tryz.func48, Tryz.ntmps48
    go_wp2_with fail
    refine C1.out.mono ?_
    rintro e w1 ⟨rfl, hB1⟩
    have Hb1 := Lib.hid (Hb0.out.trans (hB1.mono (by simp)))
    clear hB1 c0 c1 c2
    go_wp2_with fail
    go_ret2
    exact ⟨_, _, _, rfl, Wd.Sl.none_ _ _, Hb1.out⟩
  rw [put_yes hv]
  have et := tr_yes hv
  rw [et] at C1
  have n0 := hv.n0
  have HM := Lib.hid hv.ris.1
  obtain ⟨N, hN⟩ : ∃ N, N = C.n := ⟨_, rfl⟩
  have P1 := Lib.hid fun w => Vc.putLen_own none 0 0 [] N w (Wd.Sl.none_ _ _) (by omega) (by rw [hN]; exact n0) (by rw [hN]; exact n1)
  rw [List.nil_append] at P1
  have P2 := Lib.hid fun A5 n5 c5 w (h5 : Wd.Sl w .u8 A5 n5 c5 (Nm.vd N)) => Vc.putLen_own A5 n5 c5 (Nm.vd N) (n : Int) w h5 (by rw [h5.len]; have := (Nm.vd_len N).2; omega) (by omega) (by omega)
  have l1 := (Nm.vd_len N).2
  have l2 := (Nm.vd_len (n : Int)).2
  obtain ⟨T, hT⟩ : ∃ T : Nat → List Int, T = fun k => (Nm.vd N ++ Nm.vd (n : Int)) ++ putD (C.dict.take k) := ⟨_, rfl⟩
  have HT0 := Lib.hid (show T 0 = Nm.vd N ++ Nm.vd (n : Int) by rw [hT]; simp [putD])
  have HT1 := Lib.hid (show ∀ k, k < C.dict.length → T (k + 1) = T k ++ ([(C.dict.getD k default).kind] ++ Va.put (C.dict.getD k default)) from fun k hk => by
    rw [hT]
    show (Nm.vd N ++ Nm.vd (n : Int)) ++ putD (C.dict.take (k + 1)) = _
    rw [putD_next _ _ hk]
    simp)
  have HTn := Lib.hid (show T n ++ C.ids = puts C by
    rw [hT]
    show ((Nm.vd N ++ Nm.vd (n : Int)) ++ putD (C.dict.take n)) ++ C.ids = _
    rw [List.take_of_length_le (by rw [Hn.out]; exact Nat.le_refl _)]
    unfold puts
    rw [hN, Hn.out])
  have HTl := Lib.hid (show ∀ k, (T k).length ≤ 20 + 75 * k from fun k => by
    have h1 := putD_len (D := C.dict.take k) fun v hv' => HM.out v (List.mem_of_mem_take hv')
    have h2 : (C.dict.take k).length ≤ k := by simp; omega
    rw [hT]
    show (Nm.vd N ++ Nm.vd (n : Int) ++ putD (C.dict.take k)).length ≤ _
    simp only [List.length_append]
    omega)
  rw [← HTn.out]
  have hl1 := Lib.hid l1
  have hl2 := Lib.hid l2
  rw [← hN] at x0 C1 Hb0 ⊢
  have c0 := x0.c0
  have c1 := x0.c1
  have c2 := x0.c2
  clear h hb0 hv et hN n0 n1 hT l1 l2
  go_enter Tryz.func48, Tryz.ntmps48
  go_wp2_with fail
  refine C1.out.mono ?_
  rintro e w1 ⟨rfl, hB1⟩
  have y0 := x0.below (by simp) hB1
  have hlt1 := y0.lt
  have Hb1 := Lib.hid (Hb0.out.trans (hB1.mono (by simp)))
  clear hB1 c0 c1 c2 x0 C1
  have c0 := y0.c0
  have c1 := y0.c1
  have c2 := y0.c2
  go_wp2_with fail
  have hb := (Below.refl w1.heap.size w1).drew
  have z10 : w1.drew.cell? ⟨w.heap.size, 0, none⟩ = some (.int .i64 N) ∧ w1.drew.cell? ⟨w.heap.size, 1, none⟩ = some (.slice A n c) := ⟨c0, c1⟩
  go_region_held3 (fun w' => w'.cell? ⟨w.heap.size, 0, none⟩ = some (.int .i64 N) ∧ w'.cell? ⟨w.heap.size, 1, none⟩ = some (.slice A n c)) (with_reducible first | exact z10) (first
    | (go_at_call 50; (with_reducible refine (P1.out _).mono ?_); rintro e w5 ⟨v5, rfl, hO5, hB5⟩; obtain ⟨A5, n5, c5, rfl, hS5⟩ := Wd.Sl.of_own hO5; have hb := hb.trans (hB5.mono hb.size); have y9 := y0.below hlt1 hb; have z10 := And.intro y9.c0 y9.c1)
    | (go_at_call 50; (with_reducible refine (P2.out A5 n5 c5 _ hS5).mono ?_); rintro e w8 ⟨v8, rfl, hO6, hB8⟩; have hO8 := Wd.own_down hO6 hb.size; have hb := hb.trans (hB8.mono hb.size); have y9 := y0.below hlt1 hb; have z10 := And.intro y9.c0 y9.c1))
  have hb8 := hb
  have HB8 := Lib.hid hb8
  have hlt8 := y9.lt
  have y8 := y9
  have hs8 := hb8.size
  rw [← HT0.out] at hO8
  have HO8 := Lib.hid hO8
  have c1' := y9.c1
  clear z10 c0 c1 c2 hO5 hO6 hS5 hB5 hB8 hb hb8 y9 P1 P2 hO8
  go_wp2_with fail
  go_loopw [4, 22] (fun v j wr => ∃ k : Nat, j = .int .i64 k ∧ k ≤ n ∧ wr.ownsRow w1.heap.size 5 1 v (T k).length ((T k).map (Value.int .u8)) ∧ Below w1.heap.size w8 wr) (fun _ j _ => n - (intOf j).toNat)
  case atStart => exact ⟨0, rfl, Nat.zero_le _, HO8.out, Below.refl _ _⟩
  case round =>
    obtain ⟨k, rfl, hk, hO, hB⟩ := hrel
    have yr := y8.below hlt1 hB
    by_cases hkn : k < n
    · have hkI : (k : Int) < n := by omega
      have hk0 : (0 : Int) ≤ (k : Int) := by omega
      have hkD : k < C.dict.length := by rw [← Hn.out]; exact hkn
      have hHD := (HD.out.below (Hb1.out.trans ((HB8.out.trans hB).mono Hb1.out.size)))
      obtain ⟨e, f, hA, heB, d0, d1, d2, d3, hv1⟩ := hHD.cells (j := k) hkD rfl
      subst hA
      have hT := HT1.out k hkD
      have hmay := HM.out (C.dict.getD k default) (by rw [List.getD_eq_getElem?_getD, List.getElem?_eq_getElem hkD]; exact List.getElem_mem hkD)
      obtain ⟨y, hy⟩ : ∃ y, y = C.dict.getD k default := ⟨_, rfl⟩
      rw [← hy] at d0 d1 d2 d3 hv1 hT hmay
      obtain ⟨vk, vi, vs, vb⟩ := y
      have hkd := may_kind hmay
      simp only [] at hkd
      have hwk : IntKind.u8.wrap vk = vk := by
        have : vk = 0 ∨ vk = 1 ∨ vk = 2 ∨ vk = 3 := by omega
        rcases this with rfl | rfl | rfl | rfl <;> rfl
      have hbd := bounds_i64 hv1.w1
      have CP := Lib.hid fun A n c w (hS : Wd.Sl w .u8 A n c [vk]) => Vc.Put_own A n c [vk] vk vi vs vb w hS (by rw [hS.len]; simp) hbd.1 hbd.2 hmay
      have hpl := Va.put_len hmay
      obtain ⟨ds, hds⟩ : ∃ ds, ds = [vk] ++ Va.put ⟨vk, vi, vs, vb⟩ := ⟨_, rfl⟩
      have hdl : ds.length ≤ 75 := by rw [hds]; simp; omega
      rw [← hds] at CP
      replace hT : T (k + 1) = T k ++ ds := by rw [hds]; exact hT
      have HT := Lib.hid hT
      have htl := HTl.out k
      have HO := Lib.hid hO
      have HBr := Lib.hid hB
      have hsr := hB.size
      have hb3 := ((Below.refl wr.heap.size wr).alloc (Nat.le_refl _) (.cells #[.int .i64 vk, .int .i64 vi, .string vs, .bool vb] 47))
      have hlit := Wd.Sl.lit (wr.alloc (.cells #[.int .i64 vk, .int .i64 vi, .string vs, .bool vb] 47)) .u8 [vk] 5 #[.int .u8 vk] 1 rfl rfl (by decide)
      rw [World.size_alloc] at hlit
      have Hlit := Lib.hid hlit
      have hb4 : Below wr.heap.size wr ((wr.alloc (.cells #[.int .i64 vk, .int .i64 vi, .string vs, .bool vb] 47)).alloc (.cells #[.int .u8 vk] 5)) := hb3.alloc hb3.size _
      have Hb4 := Lib.hid hb4
      clear hT hmay hy hv1 hbd hds hO hB hHD hkD hpl hlit hb3 hb4
      go_wp2_with fail
      refine (CP.out _ _ _ _ Hlit.out).mono ?_
      rintro e3 w3 ⟨v3, rfl, hO3, hB3⟩
      have hb5 := Hb4.out.trans (hB3.mono Hb4.out.size)
      have hO4 := Wd.own_below HO.out hb5
      obtain ⟨A3, n3, c3, rfl, hS3⟩ := Wd.Sl.of_own hO3
      have hA5 : Below w1.heap.size w8 w3 := HBr.out.trans (hb5.mono (Nat.le_trans hs8 hsr))
      have hz5 := Nat.le_trans hs8 hA5.size
      clear d0 d1 d2 d3 hB3 hO3 CP hb5
      go_wp2_with (at_builtin; refine Wd.wpList_app _ rfl (.tmp 38) (.tmp 39) 32 rfl w1.heap.size 5 i0 _ .u8 1 Tryz.underlying32 hi hz0 hz1 hz2 rfl _ (T k) rfl hO4 _ A3 n3 c3 ds rfl hS3.len hS3.nil hS3.rd (by omega) (by unfold maxLen; omega) hz5 ?_; intro v6 w6 hO6 hg6; have hb6 : Below w1.heap.size w8 w6 := hA5.grown hg6 hz5 fun g hg => (hO4.lt g hg).1)
      go_roundw
      case rel => exact ⟨k + 1, by go_num, by omega, by rw [HT.out]; exact hO6, hb6⟩
      case measure => simp [intOf]; omega
    · have hkI : ¬ (k : Int) < n := by omega
      obtain rfl : k = n := by omega
      have hI := HI.out.below (Hb1.out.trans ((HB8.out.trans hB).mono Hb1.out.size))
      have htl := HTl.out k
      have Hil := Lib.hid hI.len
      have hic := hI.cap
      have hnl := hI.nil
      have hrd := hI.rd
      clear hI
      have hsr := hB.size
      have hbr := Hb1.out.trans ((HB8.out.trans hB).mono Hb1.out.size)
      have hs1 := Hb1.out.size
      have hsw : w1.heap.size ≤ wr.heap.size := Nat.le_trans hs8 hsr
      have c1 := yr.c1
      have c2 := yr.c2
      go_wp2_with (at_builtin; refine Wd.wpList_app _ rfl (.tmp 42) (.tmp 44) 32 rfl w1.heap.size 5 i0 _ .u8 1 Tryz.underlying32 hi hz0 hz1 hz2 rfl _ (T k) rfl hO _ B m d C.ids rfl Hil.out hnl hrd (by have := Hil.out; omega) (by unfold maxLen; have := Hil.out; omega) hsw ?_; intro v6 w6 hO6 hg6; have hb6 : Below w.heap.size w w6 := hbr.grown hg6 hbr.size fun g hg => Nat.le_trans hs1 (hO.lt g hg).1)
      go_ret2
      obtain ⟨A7, n7, c7, rfl, hS7⟩ := Wd.Sl.of_own hO6
      exact ⟨A7, n7, c7, rfl, hS7, hb6⟩
end Cx
namespace Fi
open Se (Seg Sg Gb Lt)
open Wd (Cr)
theorem pays_get (x : Seg) {k : Nat} (h : k < x.cols.length) : (pays x).getD (2 + k) [] = Co.puts (x.cols.getD k Co.none_) := by
  unfold pays
  rw [show 2 + k = k + 1 + 1 by omega, List.getD_cons_succ, List.getD_cons_succ]
  simp [List.getD, h]
theorem pays_next (x : Seg) {k : Nat} (h : k < x.cols.length) : (pays x).take (2 + (k + 1)) = (pays x).take (2 + k) ++ [Co.puts (x.cols.getD k Co.none_)] := by
  rw [show 2 + (k + 1) = 2 + k + 1 by omega, Rn.take_next (pays x) (2 + k) [] (by rw [pays_len]; omega), pays_get x h]
theorem cr_at {w : World} {OA : Option Addr} {on oc : Nat} {CA : Option Addr} {cn cc : Nat} {os : List Cr} {x : Seg} (h : Sg w OA on oc CA cn cc os x) {k : Nat} (hk : k < os.length) : x.cols.getD k Co.none_ = (os.getD k default).C ∧ (os.getD k default).C ∈ x.cols := by
  have e : x.cols.getD k Co.none_ = (os.getD k default).C := by rw [h.eq, Wd.cols_get]
  refine ⟨e, ?_⟩
  rw [← e, List.getD_eq_getElem?_getD, List.getElem?_eq_getElem (by rw [h.eq, Wd.cols_len]; exact hk)]
  exact List.getElem_mem _
set_option maxHeartbeats 8000000 in
theorem payloadsOf_any (OA : Option Addr) (on oc : Nat) (CA : Option Addr) (cn cc : Nat) (os : List Cr) (x : Seg) (w : World) (hX : Sg w OA on oc CA cn cc os x) (hG : Good x) (hlt : Lt os) (hcn : cn ≤ 100000) :
    Calls Tryz.prog 20 #[.agg #[.int .i64 x.part, .int .i64 x.id, .int .i64 x.st, .int .i64 x.en, .slice OA on oc, .slice CA cn cc]] w fun e w' => ∃ A c, e = .returned (.tuple #[.slice A (2 + cn) c, .int .i64 0]) ∧ Wd.Ss w' A (2 + cn) c (pays x) ∧ Below w.heap.size w w' := by
  have x0 := Gb.new w x.part x.id x.st x.en OA on oc CA cn cc
  have b0 := (Below.refl w.heap.size w).alloc (Nat.le_refl _) (.cells #[.int .i64 x.part, .int .i64 x.id, .int .i64 x.st, .int .i64 x.en, .slice OA on oc, .slice CA cn cc] 28)
  obtain ⟨w1, hw1⟩ : ∃ w1, w1 = w.alloc (.cells #[.int .i64 x.part, .int .i64 x.id, .int .i64 x.st, .int .i64 x.en, .slice OA on oc, .slice CA cn cc] 28) := ⟨_, rfl⟩
  rw [← hw1] at x0 b0
  obtain ⟨-, -, -, -, d4, -⟩ := Gb.six x0
  have Ce := Lib.hid (Rc.encode_ok OA on oc x.offs w1 (hX.below b0).offs (by have := hX.offs.len; have := hG.nice.len; omega) hG.nice.fit)
  have X0 := Lib.hid x0
  have B0 := Lib.hid b0
  have HX := Lib.hid hX
  have HG := Lib.hid hG
  have Hcn := Lib.hid hX.num
  have Hco := Lib.hid hX.cols.len
  have Hlt := Lib.hid hlt
  have Hw1 := Lib.hid hw1
  clear hw1 x0 b0 hX hG hlt
  go_enter Tryz.func20, Tryz.ntmps20
  go_upto_region 1 with fail
  rw [← Hw1.out]
  go_wp2_with fail
  refine Ce.out.mono ?_
  rintro e w2 ⟨A2, n2, c2, rfl, hS2, hB2⟩
  have X2 := Lib.hid (X0.out.below X0.out.lt hB2)
  have B2 := Lib.hid (B0.out.trans (hB2.mono B0.out.size))
  have HS2 := Lib.hid hS2
  clear hS2 hB2 d4 Ce
  obtain ⟨d0, d1, d2, d3, d4, d5⟩ := Gb.six X2.out
  have Ch := Lib.hid (head_any OA on oc CA cn cc x w2 Hcn.out (by omega) HG.out.nice.head)
  go_wp2_with fail
  refine Ch.out.mono ?_
  rintro e w3 ⟨A3, n3, c3, rfl, hS3, hB3⟩
  have X3 := Lib.hid (X2.out.below X2.out.lt hB3)
  have B3 := Lib.hid (B2.out.trans (hB3.mono B2.out.size))
  have HS23 := Lib.hid (HS2.out.below hB3)
  have HS3 := Lib.hid hS3
  clear hS3 hB3 d0 d1 d2 d3 d4 d5 Ch
  have al := (Below.refl w3.heap.size w3).alloc (Nat.le_refl _) (.cells #[.slice A3 n3 c3, .slice A2 n2 c2] 32)
  have o4 := Wd.OwB.lit w3 w.heap.size [.slice A3 n3 c3, .slice A2 n2 c2] B3.out.size (by simp [maxLen])
  obtain ⟨w4, hw4⟩ : ∃ w4, w4 = w3.alloc (.cells #[.slice A3 n3 c3, .slice A2 n2 c2] 32) := ⟨_, rfl⟩
  have o4 : Wd.OwB w4 w.heap.size (.slice (some ⟨w3.heap.size, 0, none⟩) 2 2) [.slice A3 n3 c3, .slice A2 n2 c2] := by rw [hw4]; exact o4
  rw [← hw4] at al
  have O4 := Lib.hid o4
  have G4 := Lib.hid (show Wd.Gs w4 [.slice A3 n3 c3, .slice A2 n2 c2] ((pays x).take (2 + 0)) from Wd.Gs.two (HS3.out.below al) (HS23.out.below al))
  have X4 := Lib.hid (X3.out.below X3.out.lt al)
  have B4 := Lib.hid (B3.out.trans (al.mono B3.out.size))
  have Hw4 := Lib.hid hw4
  clear al o4 hw4
  obtain ⟨-, -, -, -, -, d5⟩ := Gb.six X4.out
  go_upto_region 5 with fail
  rw [← Hw4.out]
  go_wp2_with fail
  go_loopw [6, 27] (fun v i wr => ∃ k : Nat, i = .int .i64 k ∧ k ≤ cn ∧ ∃ A c us, v = .slice A (2 + k) c ∧ Hid (us.length = 2 + k) ∧ Hid (Wd.OwB wr w.heap.size v us ∧ Wd.Gs wr us ((pays x).take (2 + k)) ∧ Below w.heap.size w wr)) (fun _ i _ => cn - (intOf i).toNat)
  case atStart => exact ⟨0, rfl, Nat.zero_le _, _, _, _, rfl, Lib.hid rfl, Lib.hid ⟨O4.out, G4.out, B4.out⟩⟩
  case round =>
    clear d5
    obtain ⟨k, rfl, hk, A, c, us, rfl, hus, hI⟩ := hrel
    by_cases hltk : k < cn
    · have hkI : (k : Int) < (cn : Int) := by omega
      have hko : k < os.length := by rw [← Hco.out]; exact hltk
      obtain ⟨b, f, hA, _, c0, c1, c2, h1⟩ := (HX.out.cols.below hI.out.2.2).cells hko rfl
      subst hA
      have hsz := Hlt.out k hko
      obtain ⟨hce, hcm⟩ := cr_at HX.out hko
      have hv := (HG.out.v1 _ hcm).1
      have hnx := pays_next x (k := k) (by rw [← Hcn.out]; exact hltk)
      rw [hce] at hnx
      obtain ⟨o, ho⟩ : ∃ o, o = os.getD k default := ⟨_, rfl⟩
      rw [← ho] at c0 c1 c2 h1 hsz hnx hv
      have hal := (Below.refl wr.heap.size wr).alloc (Nat.le_refl _) (.cells #[.int .i64 o.C.n, .slice o.A o.n o.c, .slice o.B o.m o.d] 57)
      have bx := Cx.Cb.new wr o.C.n o.A o.n o.c o.B o.m o.d
      have Cv := Cx.cput_any o.A o.n o.c o.B o.m o.d o.C _ (h1.below hal) hsz.1 hsz.2
      rw [Co.put_yes hv] at Cv
      have Cv := Lib.hid Cv
      obtain ⟨b0, b1, b2⟩ := And.intro bx.c0 (And.intro bx.c1 bx.c2)
      have Hal := Lib.hid hal
      have Hnx := Lib.hid hnx
      clear hal bx h1 hsz ho hko hce hcm hv hnx
      go_wp2_with fail
      refine Cv.out.mono ?_
      rintro e w5 ⟨A5, n5, c5, rfl, hS5, hB5⟩
      have hB5' := Hal.out.trans (hB5.mono Hal.out.size)
      have hB6 := hB5'.alloc hB5'.size (.cells #[.slice A5 n5 c5] 32)
      have hown := hI.out.1.below hB6
      have hgs := hI.out.2.1.below hB6
      have h5 := Wd.Gs.one_ (hS5.below ((Below.refl w5.heap.size w5).alloc (Nat.le_refl _) (.cells #[.slice A5 n5 c5] 32)))
      have hnew := (Wd.Bx.new w5 32 #[.slice A5 n5 c5]).cell 0
      have hbel := hI.out.2.2.trans (hB6.mono hI.out.2.2.size)
      have HH := Lib.hid (And.intro hgs (And.intro h5 hbel))
      have hbs := hbel.size
      have hul := hus.out
      clear hB5 hB5' hB6 hI hgs h5 hbel hS5 Cv b0 b1 b2 c0 c1 c2
      go_wp2_with (at_builtin; refine Wd.wpList_appB _ rfl (.tmp 39) (.tmp 41) rfl w.heap.size (.slice A (2 + k) c) us rfl hown ⟨w5.heap.size, 0, none⟩ (.slice A5 n5 c5) rfl hnew rfl (by omega) hbs ?_; intro A7 c7 w7 hown7 hg7)
      have HI7 := Lib.hid (show Wd.OwB w7 w.heap.size (.slice A7 (2 + (k + 1)) c7) (us ++ [.slice A5 n5 c5]) ∧ Wd.Gs w7 (us ++ [.slice A5 n5 c5]) ((pays x).take (2 + (k + 1))) ∧ Below w.heap.size w w7 from ⟨by rw [show 2 + (k + 1) = us.length + 1 by omega]; exact hown7, by
        rw [Hnx.out]
        exact (HH.out.1.app HH.out.2.1).grown hown HH.out.1 hg7, HH.out.2.2.grown hg7 hbs fun g hg => (hown.block hg).1⟩)
      clear hown hown7 hg7 hnew HH hul
      exact ⟨⟨k + 1, by go_num, by omega, A7, c7, _, rfl, Lib.hid (by rw [List.length_append, hus.out]; rfl), HI7⟩, by simp [intOf]; omega⟩
    · have hkI : ¬ (k : Int) < (cn : Int) := by omega
      obtain rfl : k = cn := by omega
      go_wp2_with fail
      go_ret2
      have h := hI.out.1.ss hI.out.2.1
      rw [List.take_of_length_le (by rw [pays_len, ← Hcn.out]; omega)] at h
      exact ⟨A, c, rfl, h, hI.out.2.2⟩
end Fi
end Go.Proofs.YtaoeipehpakngaaGreatDoor
namespace Go.Proofs.YtaoeipehpakngaaGreatDoor
open Go.RowKit
namespace Fc
open Nc
set_option maxRecDepth 100000 in
set_option maxHeartbeats 1000000 in
theorem Seal_any (A : Option Addr) (n c : Nat) (b : List Int) (w : World) (hS : Wd.Sl w .u8 A n c b) (hB : Nm.Byt b) (hn : n ≤ 65536) :
    Calls Tryz.prog 21 #[.slice A n c] w (Wd.Out2 w .u8 (Fr.frame b) 0) := by
  obtain ⟨i0, hi, hz0, hz1, hz2⟩ := info_parts info_u8
  obtain ⟨hz, hsz⟩ := zero_of_info info_eff
  obtain ⟨zc, hzc⟩ : ∃ zc : Array Value, zc = Array.replicate 256 (Value.int .u32 0) := ⟨_, rfl⟩
  rw [← hzc] at hz
  have hzs : zc.size = 256 := by rw [hzc]; exact Array.size_replicate
  have C1 := newEffects_any w
  obtain ⟨tc, htc⟩ : ∃ tc : Array Value, tc = (tab.map (Value.int .u32)).toArray := ⟨_, rfl⟩
  have hts : tc.size = 256 := by rw [htc, List.size_toArray, List.length_map, tab_len]
  have ht1 : tc.all (·.oneCell') = true := by rw [htc]; exact ints_all _ _
  rw [← htc] at C1
  have hsc := fun w : World => run_storeCells_new (P := Tryz.prog) w 85 zc tc (by rw [hsz, hts]) (by rw [hzs, hts]) ht1
  have hl := hS.len
  have hvl := Nm.vd_len (b.length : Int)
  have HC1 := Lib.hid C1
  have Hl := Lib.hid hl
  have C2 := fun w' => putLen0_own (n : Int) w' (by omega) (by omega)
  have hfr : Fr.frame b = (Nm.vd (n : Int) ++ b) ++ Fr.le4 (Fr.sum b) := by rw [hl]; rfl
  rw [← hl] at hvl
  have HC2 := Lib.hid C2
  have Hfr := Lib.hid hfr
  have HS := Lib.hid hS
  have HB := Lib.hid hB
  have Htc := Lib.hid htc
  have hcn := hS.cap
  have hmx := hS.max
  have hnil := Lib.hid hS.nil
  unfold maxLen at hmx
  clear C1 C2 htc ht1 hzs hzc hsz hl hfr hS hB
  generalize Nm.vd (n : Int) = vs at *
  go_enter Tryz.func21, Tryz.ntmps21
  go_wp2_with fail
  refine HC1.out.mono ?_
  rintro e w1 ⟨rfl, hb1⟩
  have hb2 : Below w.heap.size w (w1.alloc (.cells tc 85)) := hb1.alloc hb1.size _
  have hT2 : Tb (w1.alloc (.cells tc 85)) w1.heap.size := by rw [Htc.out]; exact heap_alloc_new w1 _
  clear HC1
  go_wp2_with fail
  generalize hw2 : w1.alloc (.cells tc 85) = w2 at hb2 hT2 ⊢
  have hg2 := hT2.lt
  refine (HC2.out w2).mono ?_
  rintro e w3 ⟨v3, rfl, hO3, hb3⟩
  clear hw2 HC2
  have hW3 : Below w.heap.size w w3 := hb2.trans (hb3.mono hb2.size)
  have hS3 := HS.out.below hW3
  go_wp2_with (at_builtin; refine Wd.wpList_app _ rfl (.tmp 12) (.tmp 13) 32 rfl w2.heap.size 5 i0 _ .u8 1 Tryz.underlying32 hi hz0 hz1 hz2 rfl v3 vs rfl hO3 w3.heap.size A n c b rfl Hl.out hnil.out hS3.rd (by rw [← Hl.out]; omega) (by rw [← Hl.out]; unfold maxLen; omega) hb3.size ?_; intro v4 w4 hO4 hg4)
  have hb4 : Below w2.heap.size w2 w4 := hb3.grown hg4 hb3.size fun g hg => (hO3.lt g hg).1
  have hW4 : Below w.heap.size w w4 := hb2.trans (hb4.mono hb2.size)
  clear hO3 hg4 hb3 hW3 hS3
  refine (tail_any w1.heap.size A n c b w4 (hT2.below hg2 hb4) (HS.out.below hW4) HB.out).mono ?_
  rintro e w5 ⟨A5, n5, c5, rfl, hS5, hb5⟩
  have hO5 := Wd.own_below hO4 hb5
  have hb25 : Below w2.heap.size w2 w5 := hb4.trans (hb5.mono hb4.size)
  have hs5 := hb25.size
  clear hO4 hb4 hW4 hb5
  have hvb : (vs ++ b).length ≤ 65546 := by rw [List.length_append, ← Hl.out]; omega
  have h4 : (Fr.le4 (Fr.sum b)).length = 4 := rfl
  generalize Fr.le4 (Fr.sum b) = qs at *
  have Hn5 := Lib.hid hS5.len
  go_wp2_with (at_builtin; refine Wd.wpList_app _ rfl (.tmp 15) (.tmp 17) 32 rfl w2.heap.size 5 i0 _ .u8 1 Tryz.underlying32 hi hz0 hz1 hz2 rfl v4 (vs ++ b) rfl hO5 w5.heap.size A5 n5 c5 qs rfl Hn5.out hS5.nil hS5.rd (by omega) (by unfold maxLen; omega) hs5 ?_; intro v6 w6 hO6 hg6)
  go_ret2
  obtain ⟨A6, n6, c6, rfl, hS6⟩ := Wd.Sl.of_own hO6
  rw [Hfr.out]
  exact ⟨A6, n6, c6, rfl, hS6, hb2.trans ((hb25.grown hg6 hb25.size fun g hg => (hO5.lt g hg).1).mono hb2.size)⟩
end Fc
end Go.Proofs.YtaoeipehpakngaaGreatDoor
namespace Go.Proofs.YtaoeipehpakngaaGreatDoor
open Go.Shelf
def Tryz.sortI_ren : Go.Shelf.Ren := ⟨fun | 5 => 133 | 8 => 186 | 7 => 185 | 19 => 231 | 20 => 210 | 10 => 222 | 11 => 223 | 12 => 224 | 13 => 225 | 14 => 226 | 15 => 227 | 16 => 228 | 17 => 229 | 18 => 230 | 30 => 249 | 31 => 250 | 32 => 251 | 33 => 252 | 34 => 253 | 35 => 142 | 40 => 263 | n => n, fun | 23 => 25 | 25 => 3 | 3 => 3 | 32 => 134 | 22 => 25 | 0 => 0 | 44 => 83 | 46 => 131 | 4 => 4 | 36 => 248 | 35 => 247 | 41 => 252 | 5 => 5 | 9 => 9 | 53 => 267 | 57 => 152 | 63 => 281 | 64 => 282 | n => n, fun | n => n⟩
theorem Tryz.sortI : Go.Proofs.SlLaysM.n5 Tryz.prog Tryz.sortI_ren := {
  mixed := by kernel_rfl
  f5 := ⟨Tryz.f133.name, by decide, Tryz.func133.trans (congrArg some (by kernel_rfl))⟩
  f7 := ⟨Tryz.f185.name, by decide, Tryz.func185.trans (congrArg some (by kernel_rfl))⟩
  f8 := Tryz.func186.trans (congrArg some (by kernel_rfl))
  f10 := ⟨Tryz.f222.name, by decide, Tryz.func222.trans (congrArg some (by kernel_rfl))⟩
  f11 := ⟨Tryz.f223.name, by decide, Tryz.func223.trans (congrArg some (by kernel_rfl))⟩
  f12 := ⟨Tryz.f224.name, by decide, Tryz.func224.trans (congrArg some (by kernel_rfl))⟩
  f13 := ⟨Tryz.f225.name, by decide, Tryz.func225.trans (congrArg some (by kernel_rfl))⟩
  f14 := ⟨Tryz.f226.name, by decide, Tryz.func226.trans (congrArg some (by kernel_rfl))⟩
  f15 := ⟨Tryz.f227.name, by decide, Tryz.func227.trans (congrArg some (by kernel_rfl))⟩
  f16 := ⟨Tryz.f228.name, by decide, Tryz.func228.trans (congrArg some (by kernel_rfl))⟩
  f17 := ⟨Tryz.f229.name, by decide, Tryz.func229.trans (congrArg some (by kernel_rfl))⟩
  f18 := ⟨Tryz.f230.name, by decide, Tryz.func230.trans (congrArg some (by kernel_rfl))⟩
  f19 := Tryz.func231.trans (congrArg some (by kernel_rfl))
  f20 := Tryz.func210.trans (congrArg some (by kernel_rfl))
  f30 := ⟨Tryz.f249.name, by decide, Tryz.func249.trans (congrArg some (by kernel_rfl))⟩
  f31 := Tryz.func250.trans (congrArg some (by kernel_rfl))
  f32 := Tryz.func251.trans (congrArg some (by kernel_rfl))
  f33 := ⟨Tryz.f252.name, by decide, Tryz.func252.trans (congrArg some (by kernel_rfl))⟩
  f34 := ⟨Tryz.f253.name, by decide, Tryz.func253.trans (congrArg some (by kernel_rfl))⟩
  f35 := ⟨Tryz.f142.name, by decide, Tryz.func142.trans (congrArg some (by kernel_rfl))⟩
  f40 := ⟨Tryz.f263.name, by decide, Tryz.func263.trans (congrArg some (by kernel_rfl))⟩
  t0 := Tryz.underlying0
  a0 := Tryz.isAgg0
  z0 := Tryz.sizeOf0
  v0 := Tryz.zeroValue0
  t3 := Tryz.underlying3
  a3 := Tryz.isAgg3
  z3 := Tryz.sizeOf3
  v3 := Tryz.zeroValue3
  t4 := Tryz.underlying4
  a4 := Tryz.isAgg4
  z4 := Tryz.sizeOf4
  v4 := Tryz.zeroValue4
  t5 := Tryz.underlying5
  a5 := Tryz.isAgg5
  z5 := Tryz.sizeOf5
  v5 := Tryz.zeroValue5
  t9 := Tryz.underlying9
  a9 := Tryz.isAgg9
  z9 := Tryz.sizeOf9
  v9 := Tryz.zeroValue9
  t22 := Tryz.underlying25
  a22 := Tryz.isAgg25
  z22 := Tryz.sizeOf25
  v22 := Tryz.zeroValue25
  t23 := Tryz.underlying25
  a23 := Tryz.isAgg25
  z23 := Tryz.sizeOf25
  v23 := Tryz.zeroValue25
  t25 := Tryz.underlying3
  a25 := Tryz.isAgg3
  z25 := Tryz.sizeOf3
  v25 := Tryz.zeroValue3
  t32 := Tryz.underlying134
  a32 := Tryz.isAgg134
  z32 := Tryz.sizeOf134
  v32 := Tryz.zeroValue134
  t35 := Tryz.underlying247
  a35 := Tryz.isAgg247
  z35 := Tryz.sizeOf247
  v35 := Tryz.zeroValue247
  t36 := Tryz.underlying248
  a36 := Tryz.isAgg248
  z36 := Tryz.sizeOf248
  v36 := Tryz.zeroValue248
  t41 := Tryz.underlying252
  a41 := Tryz.isAgg252
  z41 := Tryz.sizeOf252
  v41 := Tryz.zeroValue252
  t44 := Tryz.underlying83
  a44 := Tryz.isAgg83
  z44 := Tryz.sizeOf83
  v44 := Tryz.zeroValue83
  t46 := Tryz.underlying131
  a46 := Tryz.isAgg131
  z46 := Tryz.sizeOf131
  v46 := Tryz.zeroValue131
  t53 := Tryz.underlying267
  a53 := Tryz.isAgg267
  z53 := Tryz.sizeOf267
  v53 := Tryz.zeroValue267
  t57 := Tryz.underlying152
  a57 := Tryz.isAgg152
  z57 := Tryz.sizeOf152
  v57 := Tryz.zeroValue152
  t63 := Tryz.underlying281
  a63 := Tryz.isAgg281
  z63 := Tryz.sizeOf281
  v63 := Tryz.zeroValue281
  t64 := Tryz.underlying282
  a64 := Tryz.isAgg282
  z64 := Tryz.sizeOf282
  v64 := Tryz.zeroValue282 }
end Go.Proofs.YtaoeipehpakngaaGreatDoor
