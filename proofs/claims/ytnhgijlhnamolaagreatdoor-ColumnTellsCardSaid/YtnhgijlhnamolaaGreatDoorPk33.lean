/- What value.Put does, with whose memory the bytes are. Package column: Put. What the reference of layer 10 does: Values, Range. What the reference of layer 10 does: Range. -/
import Derived.Deep.RegionLaw
import Derived.Test.YtnhgijlhnamolaaGreatDoorPk31
import Derived.Test.YtnhgijlhnamolaaGreatDoorPk18
import Derived.Test.YtnhgijlhnamolaaGreatDoorPk32
import Derived.Test.YtnhgijlhnamolaaGreatDoorPk30
import Derived.Test.YtnhgijlhnamolaaGreatDoorPk11
import Derived.Test.YtnhgijlhnamolaaGreatDoorPk16
namespace Go.Proofs.YtnhgijlhnamolaaGreatDoor
set_option maxRecDepth 20000
open Go.RowKit
namespace Vc
open Va Nc
theorem put_own (A : Option Addr) (m c : Nat) (bs : List Int) (n : Int) (w : World) (hb : Wd.Sl w .u8 A m c bs) (hm : m ≤ 10000000) (h0 : -9223372036854775808 ≤ n) (h1 : n ≤ 9223372036854775807) :
    Calls Tryz.prog 50 #[.slice A m c, .int .i64 n] w fun e w' => ∃ v, e = .returned v ∧ w'.ownsRow w.heap.size 5 1 v (bs ++ Nm.vd (Nm.zz n)).length ((bs ++ Nm.vd (Nm.zz n)).map (Value.int .u8)) ∧ Below w.heap.size w w' := by
  have hz0 := Nm.zz_lo n
  have hz1 := Nm.zz_hi n h0 h1
  obtain ⟨rfl, hc, _, _, hr⟩ := hb
  have Hp := Lib.hid (putVarint_own A c bs (Nm.zz n) w hr hc hm hz0 hz1)
  go_enter Tryz.func50, Tryz.ntmps50
  go_wp2_with fail
  refine (zigzag_any n w h0 h1).mono ?_
  rintro e w' ⟨rfl, rfl⟩
  go_wp2_with fail
  refine Hp.out.mono ?_
  rintro e w' ⟨v, rfl, hO⟩
  go_wp2_with fail
  go_ret
  exact ⟨v, rfl, hO⟩
/-- An answer of bytes of the call's own. -/
def OutO (w : World) (L : List Int) (e : Ending) (w' : World) : Prop :=
  ∃ v, e = .returned (.tuple #[v, .int .i64 0]) ∧ w'.ownsRow w.heap.size 5 1 v L.length (L.map (Value.int .u8)) ∧ Below w.heap.size w w'
set_option maxHeartbeats 2000000 in
theorem Put_own (A : Option Addr) (n c : Nat) (bs : List Int) (k i : Int) (s : ByteArray) (b : Bool) (w : World) (hS : Wd.Sl w .u8 A n c bs) (hm : n ≤ 1000000) (h0 : -9223372036854775808 ≤ i) (h1 : i ≤ 9223372036854775807) (hM : May ⟨k, i, s, b⟩) :
    Calls Tryz.prog 30 #[.slice A n c, .agg #[.int .i64 k, .int .i64 i, .string s, .bool b]] w (OutO w (bs ++ Va.put ⟨k, i, s, b⟩)) := by
  obtain ⟨i0, hi, hz0, hz1, hz2⟩ := info_parts info_u8
  have hb0 := (Below.refl w.heap.size w).alloc (Nat.le_refl _) (.cells #[.int .i64 k, .int .i64 i, .string s, .bool b] 34)
  have v0 : Vb (w.alloc (.cells #[.int .i64 k, .int .i64 i, .string s, .bool b] 34)) w.heap.size k i s b := Wd.Bx.new w _ _
  have Cm := Lib.hid fun w => may_any k i s b w
  rw [(mayB_iff k i s b).2 hM] at Cm
  unfold May at hM
  simp only [] at hM
  rcases hM with ⟨rfl, rfl, rfl, rfl⟩ | ⟨rfl, rfl, rfl⟩ | ⟨rfl, rfl, hs, rfl⟩ | ⟨rfl, rfl, rfl⟩
  · rw [show bs ++ Va.put ⟨0, 0, ⟨#[]⟩, false⟩ = bs by simp [Va.put]]
    go_enter Tryz.func30, Tryz.ntmps30
    go_wp2_with fail
    refine (Cm.out _).mono ?_
    rintro e w2 ⟨rfl, hB2⟩
    have hb2 := hb0.trans (hB2.mono hb0.size)
    obtain ⟨⟨u0, u1, u2, u3⟩, -⟩ := four (v0.below (Wd.Bx.lt v0) hB2)
    go_wp2_with fail
    refine (clone_own A n c bs w2 (hS.below hb2) (by omega)).mono ?_
    rintro e w3 ⟨v3, rfl, hO3, hB3⟩
    go_wp2_with fail
    go_ret2
    exact ⟨v3, rfl, Wd.own_down hO3 hb2.size, hb2.trans (hB3.mono hb2.size)⟩
  · rw [show bs ++ Va.put ⟨1, i, ⟨#[]⟩, false⟩ = bs ++ Nm.vd (Nm.zz i) by simp [Va.put]]
    go_enter Tryz.func30, Tryz.ntmps30
    go_wp2_with fail
    refine (Cm.out _).mono ?_
    rintro e w2 ⟨rfl, hB2⟩
    have hb2 := hb0.trans (hB2.mono hb0.size)
    obtain ⟨⟨u0, u1, u2, u3⟩, -⟩ := four (v0.below (Wd.Bx.lt v0) hB2)
    go_wp2_with fail
    refine (put_own A n c bs i w2 (hS.below hb2) (by omega) h0 h1).mono ?_
    rintro e w3 ⟨v3, rfl, hO3, hB3⟩
    go_wp2_with fail
    go_ret2
    exact ⟨v3, rfl, Wd.own_down hO3 hb2.size, hb2.trans (hB3.mono hb2.size)⟩
  · rw [show bs ++ Va.put ⟨2, 0, s, false⟩ = (bs ++ Nm.vd (s.size : Int)) ++ byts s by simp [Va.put]]
    have hvl := Nm.vd_len (s.size : Int)
    have Hn := Lib.hid hS.len
    have Hp := Lib.hid fun w' (hb : Below w.heap.size w w') => putLen_own A n c bs (s.size : Int) w' (hS.below hb) (by omega) (by omega) (by omega)
    have HS := Lib.hid hS
    have hl8 : (bs ++ Nm.vd (s.size : Int)).length ≤ 1000010 := by rw [List.length_append, ← Hn.out]; omega
    obtain ⟨vs, hvs⟩ : ∃ vs, vs = bs ++ Nm.vd (s.size : Int) := ⟨_, rfl⟩
    rw [← hvs] at Hp hl8 ⊢
    clear hS hvs hvl Hn
    go_enter Tryz.func30, Tryz.ntmps30
    go_wp2_with fail
    refine (Cm.out _).mono ?_
    rintro e w2 ⟨rfl, hB2⟩
    have hb2 := hb0.trans (hB2.mono hb0.size)
    have v2 := v0.below (Wd.Bx.lt v0) hB2
    have hl2 := Wd.Bx.lt v2
    obtain ⟨⟨u0, u1, u2, u3⟩, -⟩ := four v2
    have Hv2 := Lib.hid v2
    have Hb2 := Lib.hid hb2
    clear v0 v2 hb0 hB2 Cm hb2
    go_upto_region 7 with fail
    go_region_held3 (fun w' => w'.cell? ⟨w.heap.size, 2, none⟩ = some (.string s)) (first | exact hc4 | exact hc3 | go_keep) (first | (refine step_app_str _ rfl (.tmp 23) (.tmp 25) 23 9 rfl w2.heap.size 5 i0 Tryz.underlying23 Tryz.underlying9 hi hz0 hz1 hz2 v3 vs rfl hO3 s rfl (by unfold maxLen; omega) (by omega) hb3.size ?_; intro v4 w4 hO4 hg4; have hb4 : Below w2.heap.size w2 w4 := hb3.grown hg4 hb3.size fun g hg => (hO3.lt g hg).1; have hc4 := (hb4.cell (p := ⟨w.heap.size, 2, none⟩) hl2).trans u2) | (go_at_call 29; (with_reducible refine (Hp.out _ (Hb2.out.drew)).mono ?_); rintro e w3 ⟨v3, rfl, hO3, hB3⟩; have hb3 : Below w2.heap.size w2 w3 := Wd.of_drew hB3; have hc3 := (hb3.cell (p := ⟨w.heap.size, 2, none⟩) hl2).trans u2))
    go_wp2_with fail
    go_ret2
    exact ⟨v4, rfl, Wd.own_down hO4 Hb2.out.size, Hb2.out.trans (hb4.mono Hb2.out.size)⟩
  · rw [show bs ++ Va.put ⟨3, 0, ⟨#[]⟩, b⟩ = bs ++ [dg b] by simp [Va.put, dg]]
    have Hn := Lib.hid hS.len
    have Hp := Lib.hid fun w' (hb : Below w.heap.size w w') => clone_own A n c bs w' (hS.below hb) (by omega)
    have hl8 : bs.length ≤ 1000000 := by rw [← Hn.out]; omega
    have Cd := Lib.hid fun w => digit_any b w
    obtain ⟨d, hd⟩ : ∃ d, d = dg b := ⟨_, rfl⟩
    rw [← hd] at Cd ⊢
    clear hS Hn hd
    go_enter Tryz.func30, Tryz.ntmps30
    go_wp2_with fail
    refine (Cm.out _).mono ?_
    rintro e w2 ⟨rfl, hB2⟩
    have hb2 := hb0.trans (hB2.mono hb0.size)
    have v2 := v0.below (Wd.Bx.lt v0) hB2
    have hl2 := Wd.Bx.lt v2
    obtain ⟨⟨u0, u1, u2, u3⟩, -⟩ := four v2
    have Hv2 := Lib.hid v2
    have Hb2 := Lib.hid hb2
    clear v0 v2 hb0 hB2 Cm hb2
    go_upto_region 9 with fail
    go_region_held3 (fun w' => w'.cell? ⟨w.heap.size, 3, none⟩ = some (.bool b)) (first | exact hc4 | exact hc3 | go_keep) (first | (refine Wd.step_app _ rfl (.tmp 30) (.tmp 34) 23 rfl w2.heap.size 5 i0 _ .u8 1 Tryz.underlying23 hi hz0 hz1 hz2 rfl v3 bs rfl (Wd.own_below hO3 ((Below.refl _ _).alloc (Nat.le_refl _) (.cells #[.int .u8 d] 5))) (w3.heap.size + 1) (some ⟨w3.heap.size, 0, none⟩) 1 1 [d] (by rfl) rfl (by simp) (Wd.Rd.lit w3 .u8 [d] 5 #[.int .u8 d] rfl) (by simp; omega) (by unfold maxLen; simp; omega) (by simp; omega) ?_; intro v4 w4 hO4 hg4; have hb4 : Below w2.heap.size w2 w4 := (hb3.alloc hb3.size (.cells #[.int .u8 d] 5)).grown hg4 (by simp; omega) fun g hg => (hO3.lt g hg).1; have hc4 := (hb4.cell (p := ⟨w.heap.size, 3, none⟩) hl2).trans u3) | (go_at_call 51; (with_reducible refine (Cd.out _).mono ?_); rintro e w5 ⟨rfl, hw5⟩; have hq5 := hw5.symm; clear hw5; subst hq5) | (go_at_call 47; (with_reducible refine (Hp.out _ (Hb2.out.drew)).mono ?_); rintro e w3 ⟨v3, rfl, hO3, hB3⟩; have hb3 : Below w2.heap.size w2 w3 := Wd.of_drew hB3; have hsz3 := hb3.size; have hc3 := (hb3.cell (p := ⟨w.heap.size, 3, none⟩) hl2).trans u3))
    go_wp2_with fail
    go_ret2
    exact ⟨v4, rfl, Wd.own_down hO4 Hb2.out.size, Hb2.out.trans (hb4.mono Hb2.out.size)⟩
end Vc
end Go.Proofs.YtnhgijlhnamolaaGreatDoor
namespace Go.Proofs.YtnhgijlhnamolaaGreatDoor
set_option maxRecDepth 20000
open Go.RowKit
namespace Cx
open Va (Vl May ord null)
open Sc (tr tr_yes tr_no tr_iff)
open Co
set_option maxHeartbeats 8000000 in
theorem cput_any (A : Option Addr) (n c : Nat) (B : Option Addr) (m d : Nat) (C : Col) (w : World) (h : Cl w A n c B m d C) (hn : n ≤ 1000) (hm : m ≤ 1000000) :
    Calls Tryz.prog 15 #[.agg #[.int .i64 C.n, .slice A n c, .slice B m d]] w (Wd.Out2 w .u8 (put C).1 (put C).2) := by
  obtain ⟨i0, hi, hz0, hz1, hz2⟩ := info_parts info_y
  have hb0 := (Below.refl w.heap.size w).alloc (Nat.le_refl _) (.cells #[.int .i64 C.n, .slice A n c, .slice B m d] 25)
  have x0 := Cb.new w C.n A n c B m d
  have C1 := Lib.hid (cmay_any A n c B m d C _ (h.below hb0) hn hm)
  have Hb0 := Lib.hid hb0
  have HD := Lib.hid h.dict
  have HI := Lib.hid h.ids
  have Hn := Lib.hid h.dict.len
  have Hm := Lib.hid h.ids.len
  have hcap := h.dict.cap
  have hmx := h.dict.max
  have hcap2 := h.ids.cap
  have hmx2 := h.ids.max
  unfold maxLen at hmx hmx2
  have n1 := h.n1
  by_cases hv : Valid C
  case neg =>
    rw [put_no hv]
    have et := tr_no hv
    rw [et] at C1
    clear h hb0 hv et
    have c0 := x0.c0
    have c1 := x0.c1
    have c2 := x0.c2
    obtain ⟨N, hN⟩ : ∃ N, N = C.n := ⟨_, rfl⟩
    rw [← hN] at C1 Hb0 c0 c1 c2 ⊢
    clear hN x0 n1
    go_enter Tryz.func15, Tryz.ntmps15
    go_wp2_with fail
    refine C1.out.mono ?_
    rintro e w1 ⟨rfl, hB1⟩
    have Hb1 := Lib.hid (Hb0.out.trans (hB1.mono (by simp)))
    clear hB1 c0 c1 c2
    go_wp2_with fail
    go_ret2
    exact ⟨_, _, _, rfl, Wd.Sl.none_ _ _, Hb1.out⟩
  rw [put_yes hv]
  have et := tr_yes hv
  rw [et] at C1
  have n0 := hv.n0
  have HM := Lib.hid hv.ris.1
  obtain ⟨N, hN⟩ : ∃ N, N = C.n := ⟨_, rfl⟩
  have P1 := Lib.hid fun w => Vc.putLen_own none 0 0 [] N w (Wd.Sl.none_ _ _) (by omega) (by rw [hN]; exact n0) (by rw [hN]; exact n1)
  rw [List.nil_append] at P1
  have P2 := Lib.hid fun A5 n5 c5 w (h5 : Wd.Sl w .u8 A5 n5 c5 (Nm.vd N)) => Vc.putLen_own A5 n5 c5 (Nm.vd N) (n : Int) w h5 (by rw [h5.len]; have := (Nm.vd_len N).2; omega) (by omega) (by omega)
  have l1 := (Nm.vd_len N).2
  have l2 := (Nm.vd_len (n : Int)).2
  obtain ⟨T, hT⟩ : ∃ T : Nat → List Int, T = fun k => (Nm.vd N ++ Nm.vd (n : Int)) ++ putD (C.dict.take k) := ⟨_, rfl⟩
  have HT0 := Lib.hid (show T 0 = Nm.vd N ++ Nm.vd (n : Int) by rw [hT]; simp [putD])
  have HT1 := Lib.hid (show ∀ k, k < C.dict.length → T (k + 1) = T k ++ ([(C.dict.getD k default).kind] ++ Va.put (C.dict.getD k default)) from fun k hk => by
    rw [hT]
    show (Nm.vd N ++ Nm.vd (n : Int)) ++ putD (C.dict.take (k + 1)) = _
    rw [putD_next _ _ hk]
    simp)
  have HTn := Lib.hid (show T n ++ C.ids = puts C by
    rw [hT]
    show ((Nm.vd N ++ Nm.vd (n : Int)) ++ putD (C.dict.take n)) ++ C.ids = _
    rw [List.take_of_length_le (by rw [Hn.out]; exact Nat.le_refl _)]
    unfold puts
    rw [hN, Hn.out])
  have HTl := Lib.hid (show ∀ k, (T k).length ≤ 20 + 75 * k from fun k => by
    have h1 := putD_len (D := C.dict.take k) fun v hv' => HM.out v (List.mem_of_mem_take hv')
    have h2 : (C.dict.take k).length ≤ k := by simp; omega
    rw [hT]
    show (Nm.vd N ++ Nm.vd (n : Int) ++ putD (C.dict.take k)).length ≤ _
    simp only [List.length_append]
    omega)
  rw [← HTn.out]
  have hl1 := Lib.hid l1
  have hl2 := Lib.hid l2
  rw [← hN] at x0 C1 Hb0 ⊢
  have c0 := x0.c0
  have c1 := x0.c1
  have c2 := x0.c2
  clear h hb0 hv et hN n0 n1 hT l1 l2
  go_enter Tryz.func15, Tryz.ntmps15
  go_wp2_with fail
  refine C1.out.mono ?_
  rintro e w1 ⟨rfl, hB1⟩
  have y0 := x0.below (by simp) hB1
  have hlt1 := y0.lt
  have Hb1 := Lib.hid (Hb0.out.trans (hB1.mono (by simp)))
  clear hB1 c0 c1 c2 x0 C1
  have c0 := y0.c0
  have c1 := y0.c1
  have c2 := y0.c2
  go_wp2_with fail
  have hb := (Below.refl w1.heap.size w1).drew
  have z10 : w1.drew.cell? ⟨w.heap.size, 0, none⟩ = some (.int .i64 N) ∧ w1.drew.cell? ⟨w.heap.size, 1, none⟩ = some (.slice A n c) := ⟨c0, c1⟩
  go_region_held3 (fun w' => w'.cell? ⟨w.heap.size, 0, none⟩ = some (.int .i64 N) ∧ w'.cell? ⟨w.heap.size, 1, none⟩ = some (.slice A n c)) (with_reducible first | exact z10) (first
    | (go_at_call 29; (with_reducible refine (P1.out _).mono ?_); rintro e w5 ⟨v5, rfl, hO5, hB5⟩; obtain ⟨A5, n5, c5, rfl, hS5⟩ := Wd.Sl.of_own hO5; have hb := hb.trans (hB5.mono hb.size); have y9 := y0.below hlt1 hb; have z10 := And.intro y9.c0 y9.c1)
    | (go_at_call 29; (with_reducible refine (P2.out A5 n5 c5 _ hS5).mono ?_); rintro e w8 ⟨v8, rfl, hO6, hB8⟩; have hO8 := Wd.own_down hO6 hb.size; have hb := hb.trans (hB8.mono hb.size); have y9 := y0.below hlt1 hb; have z10 := And.intro y9.c0 y9.c1))
  have hb8 := hb
  have HB8 := Lib.hid hb8
  have hlt8 := y9.lt
  have y8 := y9
  have hs8 := hb8.size
  rw [← HT0.out] at hO8
  have HO8 := Lib.hid hO8
  have c1' := y9.c1
  clear z10 c0 c1 c2 hO5 hO6 hS5 hB5 hB8 hb hb8 y9 P1 P2 hO8
  go_wp2_with fail
  go_loopw [4, 22] (fun v j wr => ∃ k : Nat, j = .int .i64 k ∧ k ≤ n ∧ wr.ownsRow w1.heap.size 5 1 v (T k).length ((T k).map (Value.int .u8)) ∧ Below w1.heap.size w8 wr) (fun _ j _ => n - (intOf j).toNat)
  case atStart => exact ⟨0, rfl, Nat.zero_le _, HO8.out, Below.refl _ _⟩
  case round =>
    obtain ⟨k, rfl, hk, hO, hB⟩ := hrel
    have yr := y8.below hlt1 hB
    by_cases hkn : k < n
    · have hkI : (k : Int) < n := by omega
      have hk0 : (0 : Int) ≤ (k : Int) := by omega
      have hkD : k < C.dict.length := by rw [← Hn.out]; exact hkn
      have hHD := (HD.out.below (Hb1.out.trans ((HB8.out.trans hB).mono Hb1.out.size)))
      obtain ⟨e, f, hA, heB, d0, d1, d2, d3, hv1⟩ := hHD.cells (j := k) hkD rfl
      subst hA
      have hT := HT1.out k hkD
      have hmay := HM.out (C.dict.getD k default) (by rw [List.getD_eq_getElem?_getD, List.getElem?_eq_getElem hkD]; exact List.getElem_mem hkD)
      obtain ⟨y, hy⟩ : ∃ y, y = C.dict.getD k default := ⟨_, rfl⟩
      rw [← hy] at d0 d1 d2 d3 hv1 hT hmay
      obtain ⟨vk, vi, vs, vb⟩ := y
      have hkd := may_kind hmay
      simp only [] at hkd
      have hwk : IntKind.u8.wrap vk = vk := by
        have : vk = 0 ∨ vk = 1 ∨ vk = 2 ∨ vk = 3 := by omega
        rcases this with rfl | rfl | rfl | rfl <;> rfl
      have hbd := bounds_i64 hv1.w1
      have CP := Lib.hid fun A n c w (hS : Wd.Sl w .u8 A n c [vk]) => Vc.Put_own A n c [vk] vk vi vs vb w hS (by rw [hS.len]; simp) hbd.1 hbd.2 hmay
      have hpl := Va.put_len hmay
      obtain ⟨ds, hds⟩ : ∃ ds, ds = [vk] ++ Va.put ⟨vk, vi, vs, vb⟩ := ⟨_, rfl⟩
      have hdl : ds.length ≤ 75 := by rw [hds]; simp; omega
      rw [← hds] at CP
      replace hT : T (k + 1) = T k ++ ds := by rw [hds]; exact hT
      have HT := Lib.hid hT
      have htl := HTl.out k
      have HO := Lib.hid hO
      have HBr := Lib.hid hB
      have hsr := hB.size
      have hb3 := ((Below.refl wr.heap.size wr).alloc (Nat.le_refl _) (.cells #[.int .i64 vk, .int .i64 vi, .string vs, .bool vb] 34))
      have hlit := Wd.Sl.lit (wr.alloc (.cells #[.int .i64 vk, .int .i64 vi, .string vs, .bool vb] 34)) .u8 [vk] 5 #[.int .u8 vk] 1 rfl rfl (by decide)
      rw [World.size_alloc] at hlit
      have Hlit := Lib.hid hlit
      have hb4 : Below wr.heap.size wr ((wr.alloc (.cells #[.int .i64 vk, .int .i64 vi, .string vs, .bool vb] 34)).alloc (.cells #[.int .u8 vk] 5)) := hb3.alloc hb3.size _
      have Hb4 := Lib.hid hb4
      clear hT hmay hy hv1 hbd hds hO hB hHD hkD hpl hlit hb3 hb4
      go_wp2_with fail
      refine (CP.out _ _ _ _ Hlit.out).mono ?_
      rintro e3 w3 ⟨v3, rfl, hO3, hB3⟩
      have hb5 := Hb4.out.trans (hB3.mono Hb4.out.size)
      have hO4 := Wd.own_below HO.out hb5
      obtain ⟨A3, n3, c3, rfl, hS3⟩ := Wd.Sl.of_own hO3
      have hA5 : Below w1.heap.size w8 w3 := HBr.out.trans (hb5.mono (Nat.le_trans hs8 hsr))
      have hz5 := Nat.le_trans hs8 hA5.size
      clear d0 d1 d2 d3 hB3 hO3 CP hb5
      go_wp2_with (at_builtin; refine Wd.wpList_app _ rfl (.tmp 38) (.tmp 39) 23 rfl w1.heap.size 5 i0 _ .u8 1 Tryz.underlying23 hi hz0 hz1 hz2 rfl _ (T k) rfl hO4 _ A3 n3 c3 ds rfl hS3.len hS3.nil hS3.rd (by omega) (by unfold maxLen; omega) hz5 ?_; intro v6 w6 hO6 hg6; have hb6 : Below w1.heap.size w8 w6 := hA5.grown hg6 hz5 fun g hg => (hO4.lt g hg).1)
      go_roundw
      case rel => exact ⟨k + 1, by go_num, by omega, by rw [HT.out]; exact hO6, hb6⟩
      case measure => simp [intOf]; omega
    · have hkI : ¬ (k : Int) < n := by omega
      obtain rfl : k = n := by omega
      have hI := HI.out.below (Hb1.out.trans ((HB8.out.trans hB).mono Hb1.out.size))
      have htl := HTl.out k
      have Hil := Lib.hid hI.len
      have hic := hI.cap
      have hnl := hI.nil
      have hrd := hI.rd
      clear hI
      have hsr := hB.size
      have hbr := Hb1.out.trans ((HB8.out.trans hB).mono Hb1.out.size)
      have hs1 := Hb1.out.size
      have hsw : w1.heap.size ≤ wr.heap.size := Nat.le_trans hs8 hsr
      have c1 := yr.c1
      have c2 := yr.c2
      go_wp2_with (at_builtin; refine Wd.wpList_app _ rfl (.tmp 42) (.tmp 44) 23 rfl w1.heap.size 5 i0 _ .u8 1 Tryz.underlying23 hi hz0 hz1 hz2 rfl _ (T k) rfl hO _ B m d C.ids rfl Hil.out hnl hrd (by have := Hil.out; omega) (by unfold maxLen; have := Hil.out; omega) hsw ?_; intro v6 w6 hO6 hg6; have hb6 : Below w.heap.size w w6 := hbr.grown hg6 hbr.size fun g hg => Nat.le_trans hs1 (hO.lt g hg).1)
      go_ret2
      obtain ⟨A7, n7, c7, rfl, hS7⟩ := Wd.Sl.of_own hO6
      exact ⟨A7, n7, c7, rfl, hS7, hb6⟩
end Cx
end Go.Proofs.YtnhgijlhnamolaaGreatDoor
namespace Go.Proofs.YtnhgijlhnamolaaGreatDoor
set_option maxRecDepth 20000
open Go.RowKit
namespace Cx
open Va (Vl May ord null)
open Sc (tr tr_yes tr_no tr_iff)
open Co
theorem take_map {α β : Type} (f : α → β) (l : List α) (k : Nat) (h : k < l.length) (d : α) : (l.take (k + 1)).map f = (l.take k).map f ++ [f (l.getD k d)] := by
  rw [List.take_succ_eq_append_getElem h, List.map_append]
  simp [List.getD, h]
theorem V1_of {w : World} {A : Option Addr} {n c : Nat} {vs : List Vl} (h : Wd.Vs w A n c vs) {j : Nat} (hj : j < vs.length) : Wd.V1 (vs.getD j default) := by
  obtain ⟨_, _, _, _, _, h1⟩ := h.at_ j hj
  exact h1
set_option maxHeartbeats 8000000 in
theorem refValues_any (A : Option Addr) (n c : Nat) (B : Option Addr) (m d : Nat) (C : Col) (w : World) (h : Cl w A n c B m d C) (hn : n ≤ 100000) (hm : m ≤ 1000000) :
    Calls Tryz.prog 7 #[.agg #[.int .i64 C.n, .slice A n c, .slice B m d]] w (OutV w (values C)) := by
  have hb0 := (Below.refl w.heap.size w).alloc (Nat.le_refl _) (.cells #[.int .i64 C.n, .slice A n c, .slice B m d] 25)
  have x0 := Cb.new w C.n A n c B m d
  have C1 := Lib.hid (refIds_any A n c B m d C _ (h.below hb0) hn hm)
  have hcap := h.dict.cap
  have hmx := h.dict.max
  unfold maxLen at hmx
  have HD := Lib.hid h.dict
  have Hn := Lib.hid h.dict.len
  have Hb0 := Lib.hid hb0
  obtain ⟨L, hL⟩ : ∃ L, L = nums C := ⟨_, rfl⟩
  have Hin := Lib.hid (show ∀ x ∈ L, 0 ≤ x ∧ x < (n : Int) from fun x hx => by
    rw [hL] at hx
    have := nums_in hx
    rw [h.dict.len]
    exact this.2)
  have Hll := Lib.hid (show L.length ≤ 4096 by
    by_cases hv : Valid C
    · have h1 := nums_len hv
      have h2 := hv.n1
      rw [hL]
      omega
    · rw [hL, nums_no hv]
      simp)
  obtain ⟨T, hT⟩ : ∃ T : Nat → List Vl, T = fun k => (L.take k).map fun x => C.dict.getD x.toNat default := ⟨_, rfl⟩
  have HT0 := Lib.hid (show T 0 = [] by rw [hT]; rfl)
  have HT1 := Lib.hid (show ∀ k, k < L.length → T (k + 1) = T k ++ [C.dict.getD (L.getD k 0).toNat default] from fun k hk => by rw [hT]; exact take_map _ _ _ hk _)
  have HTn := Lib.hid (show T L.length = values C by rw [hT, hL]; show ((nums C).take (nums C).length).map _ = _; rw [List.take_length]; rfl)
  have HTl := Lib.hid (show ∀ k, (T k).length ≤ k from fun k => by rw [hT]; simp; omega)
  rw [← hL] at C1
  rw [← HTn.out]
  have h4 := Hll.out
  obtain ⟨N, hN⟩ : ∃ N, N = C.n := ⟨_, rfl⟩
  rw [← hN] at x0 C1 Hb0 ⊢
  have bx := x0.bx
  clear h hb0 hL hT hN
  have c0 := x0.c0
  have c1 := x0.c1
  have c2 := x0.c2
  go_enter Tryz.func7, Tryz.ntmps7
  go_wp2_with fail
  refine C1.out.mono ?_
  rintro e w1 ⟨P, p, q, rfl, hSl, hB1⟩
  have y0 := x0.below (by simp) hB1
  have hb1 := Hb0.out.trans (hB1.mono (by simp))
  have hlt1 := y0.lt
  have hpl := hSl.len
  have hpc := hSl.cap
  have hpm := hSl.max
  unfold maxLen at hpm
  have hp1 : p ≤ 4096 := by omega
  have Hpl := Lib.hid hpl
  have HSl := Lib.hid hSl
  have HD1 := Lib.hid (HD.out.below hb1)
  have Hb1 := Lib.hid hb1
  clear c0 c1 c2 x0 bx hB1 C1 hpl hSl hb1 h4 HD
  go_wp2_with fail
  go_loopw [5, 6] (fun v j wr => ∃ k : Nat, j = .int .i64 k ∧ k ≤ p ∧ wr.ownsRow w1.heap.size 34 4 v (T k).length (Wd.flatV (T k)) ∧ Hid (∀ j, j < (T k).length → Wd.V1 ((T k).getD j default)) ∧ Below w1.heap.size w1 wr) (fun _ j _ => p - (intOf j).toNat)
  case atStart => exact ⟨0, rfl, Nat.zero_le _, by rw [HT0.out]; exact World.ownsRow_nil _ _ _ _, Lib.hid (fun j hj => by rw [HT0.out] at hj; cases hj), Below.refl _ _⟩
  case round =>
    obtain ⟨k, rfl, hk, hO, h1, hB⟩ := hrel
    by_cases hkp : k < p
    · have hkI : (k : Int) < p := by omega
      have hk0 : (0 : Int) ≤ (k : Int) := by omega
      have hkL : k < L.length := by rw [← Hpl.out]; exact hkp
      obtain ⟨b, o, hP, hbl, hc⟩ := (HSl.out.below hB).rd k hkL
      subst hP
      obtain ⟨x, hx⟩ : ∃ x, x = L.getD k 0 := ⟨_, rfl⟩
      have hxm : x ∈ L := by
        rw [hx, List.getD_eq_getElem?_getD, List.getElem?_eq_getElem hkL]
        exact List.getElem_mem hkL
      obtain ⟨hx0, hxn⟩ := Hin.out x hxm
      have hT := HT1.out k hkL
      rw [← hx] at hc hT
      obtain ⟨z, hz⟩ : ∃ z : Nat, x = (z : Int) := ⟨x.toNat, by omega⟩
      subst hz
      rw [Int.toNat_natCast] at hT
      have hzn : z < C.dict.length := by rw [← Hn.out]; omega
      have HDr := HD1.out.below hB
      obtain ⟨e, f, hA, heB, d0, d1, d2, d3, hv1⟩ := HDr.cells (j := z) hzn rfl
      subst hA
      have Hv1 := Lib.hid hv1
      obtain ⟨y, hy⟩ : ∃ y, y = C.dict.getD z default := ⟨_, rfl⟩
      rw [← hy] at d0 d1 d2 d3 hT Hv1
      obtain ⟨vk, vi, vs, vb⟩ := y
      have HT := Lib.hid hT
      have hc1 := (y0.below hlt1 hB).c1
      have hO4 := hO
      have hdk : (T k).length ≤ 1000000 := by have := HTl.out k; omega
      have hz4 := hB.size
      have HB := Lib.hid hB
      have H1 := Lib.hid h1
      clear hx hxm hT hzn hy HDr hv1 hO h1
      go_wp2_with fail
      have hA5 : Below w1.heap.size w1 (wr.drew.alloc (.cells #[.int .i64 vk, .int .i64 vi, .string vs, .bool vb] 34)) := (hB.drew).alloc hz4 _
      have hO5 : (wr.drew.alloc (.cells #[.int .i64 vk, .int .i64 vi, .string vs, .bool vb] 34)).ownsRow w1.heap.size 34 4 u5 (T k).length (Wd.flatV (T k)) := hO4.drew.alloc _
      have hz5 := hA5.size
      have hcv := Wd.vals_new wr.drew ⟨vk, vi, vs, vb⟩ _ rfl
      go_region_law (refine Wd.step_appV _ rfl (.tmp 18) (.tmp 27) rfl w1.heap.size u5 (T k) rfl hO5 _ ⟨vk, vi, vs, vb⟩ rfl hcv hdk hz5 ?_; intro v6 w6 hO6 hg6; have hb6 : Below w1.heap.size w1 w6 := hA5.grown hg6 hz5 fun g hg => (hO5.lt g hg).1)
      all_goals (
        go_wp2_with fail
        go_roundw
        case rel =>
          refine ⟨k + 1, by go_num, by omega, by rw [HT.out]; exact hO6, Lib.hid ?_, hb6⟩
          rw [HT.out]
          exact Sx.v1_app H1.out Hv1.out
        case measure => simp [intOf]; omega)
    · have hkI : ¬ (k : Int) < p := by omega
      obtain rfl : k = p := by omega
      obtain ⟨A6, n6, c6, rfl, hS6⟩ := Wd.Vs.of_own hO h1.out
      have HB := Lib.hid (Hb1.out.trans (hB.mono Hb1.out.size))
      have HS6 := Lib.hid hS6
      have e := Hpl.out
      clear hO h1 hB hS6
      go_wp2_with fail
      go_ret
      exact ⟨_, _, _, rfl, by rw [← e]; exact HS6.out, HB.out⟩
end Cx
end Go.Proofs.YtnhgijlhnamolaaGreatDoor
namespace Go.Proofs.YtnhgijlhnamolaaGreatDoor
set_option maxRecDepth 20000
open Go.RowKit
namespace Cx
open Va (Vl May ord null)
open Sc (tr tr_yes tr_no tr_iff)
open Co
open Bx (Rw)
set_option maxHeartbeats 8000000 in
theorem refRange_any (A : Option Addr) (n c : Nat) (B : Option Addr) (m d : Nat) (C : Col) (lo hi : Int) (w : World) (h : Cl w A n c B m d C) (hn : n ≤ 100000) (hm : m ≤ 1000000) :
    Calls Tryz.prog 14 #[.agg #[.int .i64 C.n, .slice A n c, .slice B m d], .int .i64 lo, .int .i64 hi] w (Wd.Out w .i64 (rng C lo hi)) := by
  have hb0 := (Below.refl w.heap.size w).alloc (Nat.le_refl _) (.cells #[.int .i64 C.n, .slice A n c, .slice B m d] 25)
  have x0 := Cb.new w C.n A n c B m d
  have C1 := Lib.hid (refIds_any A n c B m d C _ (h.below hb0) hn hm)
  have Hb0 := Lib.hid hb0
  obtain ⟨L, hL⟩ : ∃ L, L = nums C := ⟨_, rfl⟩
  have Hll := Lib.hid (show L.length ≤ 4096 by
    by_cases hv : Valid C
    · have h1 := nums_len hv
      have h2 := hv.n1
      rw [hL]
      omega
    · rw [hL, nums_no hv]
      simp)
  obtain ⟨T, hT⟩ : ∃ T : Nat → List Int, T = fun k => ((List.range k).filter fun i => decide (lo ≤ L.getD i 0 ∧ L.getD i 0 < hi)).map fun (i : Nat) => (i : Int) := ⟨_, rfl⟩
  have HT0 := Lib.hid (show T 0 = [] by rw [hT]; rfl)
  have HT1 := Lib.hid (show ∀ k, (lo ≤ L.getD k 0 ∧ L.getD k 0 < hi) → T (k + 1) = T k ++ [(k : Int)] from fun k hk => by
    rw [hT]
    show ((List.range (k + 1)).filter _).map _ = ((List.range k).filter _).map _ ++ _
    rw [List.range_succ, List.filter_append, List.map_append]
    have : decide (lo ≤ L.getD k 0 ∧ L.getD k 0 < hi) = true := decide_eq_true hk
    simp only [List.filter_cons, this, List.filter_nil]
    simp)
  have HT2 := Lib.hid (show ∀ k, ¬ (lo ≤ L.getD k 0 ∧ L.getD k 0 < hi) → T (k + 1) = T k from fun k hk => by
    rw [hT]
    show ((List.range (k + 1)).filter _).map _ = ((List.range k).filter _).map _
    rw [List.range_succ, List.filter_append, List.map_append]
    have : decide (lo ≤ L.getD k 0 ∧ L.getD k 0 < hi) = false := decide_eq_false hk
    simp only [List.filter_cons, this, List.filter_nil]
    simp)
  have HTn := Lib.hid (show T L.length = rng C lo hi by rw [hT, hL]; rfl)
  have HTl := Lib.hid (show ∀ k, (T k).length ≤ k from fun k => by
    rw [hT]
    show (((List.range k).filter _).map _).length ≤ k
    rw [List.length_map]
    have := List.length_filter_le (fun i => decide (lo ≤ L.getD i 0 ∧ L.getD i 0 < hi)) (List.range k)
    simpa using this)
  rw [← hL] at C1
  rw [← HTn.out]
  have h4 := Hll.out
  obtain ⟨N, hN⟩ : ∃ N, N = C.n := ⟨_, rfl⟩
  rw [← hN] at x0 C1 Hb0 ⊢
  have bx := x0.bx
  clear h hb0 hL hT hN
  have c0 := x0.c0
  have c1 := x0.c1
  have c2 := x0.c2
  go_enter Tryz.func14, Tryz.ntmps14
  go_wp2_with fail
  refine C1.out.mono ?_
  rintro e w1 ⟨P, p, q, rfl, hSl, hB1⟩
  have hb1 := Hb0.out.trans (hB1.mono (by simp))
  have hpl := hSl.len
  have hpc := hSl.cap
  have hpm := hSl.max
  unfold maxLen at hpm
  have hp1 : p ≤ 4096 := by omega
  have Hpl := Lib.hid hpl
  have HSl := Lib.hid hSl
  have Hb1 := Lib.hid hb1
  clear c0 c1 c2 x0 bx hB1 C1 hpl hSl hb1 h4
  go_wp2_with fail
  go_loopw [9, 10] (fun v j wr => ∃ k : Nat, j = .int .i64 k ∧ k ≤ p ∧ Rw wr w1.heap.size v (T k) ∧ Below w1.heap.size w1 wr) (fun _ j _ => p - (intOf j).toNat)
  case atStart => exact ⟨0, rfl, Nat.zero_le _, by rw [HT0.out]; exact Rw.nil _ _, Below.refl _ _⟩
  case round =>
    obtain ⟨k, rfl, hk, hO, hB⟩ := hrel
    by_cases hkp : k < p
    · have hkI : (k : Int) < p := by omega
      have hk0 : (0 : Int) ≤ (k : Int) := by omega
      have hkL : k < L.length := by rw [← Hpl.out]; exact hkp
      obtain ⟨b, o, hP, hbl, hc⟩ := (HSl.out.below hB).rd k hkL
      subst hP
      have ht1 := HT1.out k
      have ht2 := HT2.out k
      obtain ⟨x, hx⟩ : ∃ x, x = L.getD k 0 := ⟨_, rfl⟩
      rw [← hx] at hc ht1 ht2
      have Ht1 := Lib.hid ht1
      have Ht2 := Lib.hid ht2
      have hO4 := hO
      have hdk : (T k).length ≤ 1000000 := by have := HTl.out k; omega
      have HO := Lib.hid hO
      clear hx hkL ht1 ht2 hO
      by_cases h1 : lo ≤ x
      · have hd1 : decide (lo ≤ x) = true := decide_eq_true h1
        by_cases h2 : x < hi
        · have hd2 : decide (x < hi) = true := decide_eq_true h2
          go_wp2_with (first | (at_builtin; refine Bx.wpList_app w1 rfl (.tmp 36) (.tmp 38) rfl wr u9 (T k) rfl HO.out (k : Int) rfl hdk hB ?_; intro v5 w5 hO5 hB5))
          go_roundw
          case rel => exact ⟨k + 1, by go_num, by omega, by rw [Ht1.out ⟨h1, h2⟩]; exact hO5, hB5⟩
          case measure => simp [intOf]; omega
        · have hd2 : decide (x < hi) = false := decide_eq_false h2
          go_wp2_with fail
          go_roundw
          case rel => exact ⟨k + 1, by go_num, by omega, by rw [Ht2.out (fun q => h2 q.2)]; exact HO.out, hB⟩
          case measure => simp [intOf]; omega
      · have hd1 : decide (lo ≤ x) = false := decide_eq_false h1
        go_wp2_with fail
        go_roundw
        case rel => exact ⟨k + 1, by go_num, by omega, by rw [Ht2.out (fun q => h1 q.1)]; exact HO.out, hB⟩
        case measure => simp [intOf]; omega
    · have hkI : ¬ (k : Int) < p := by omega
      obtain rfl : k = p := by omega
      obtain ⟨A6, n6, c6, rfl, hS6⟩ := Wd.Sl.of_own hO
      have HB := Lib.hid (Hb1.out.trans (hB.mono Hb1.out.size))
      have HS6 := Lib.hid hS6
      have e := Hpl.out
      clear hO hB hS6
      go_wp2_with fail
      go_ret
      exact ⟨_, _, _, rfl, by rw [← e]; exact HS6.out, HB.out⟩
end Cx
end Go.Proofs.YtnhgijlhnamolaaGreatDoor
