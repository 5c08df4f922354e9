/- Package column: Put. What the functions of package num that read do: getVarint, GetLen. They leave memory as it is. What the functions of package num that read do: unzigzag, Get (getVarint, GetLen: NumGetV). They leave memory as it is. -/
import Derived.WalkKit
import Derived.WalkSpells
import Derived.Lib.Hide
import Derived.Test.YtnhgijlhnamolaaDoorPk18
import Derived.Test.YtnhgijlhnamolaaDoorPk32
import Derived.Test.YtnhgijlhnamolaaDoorProg
import Derived.Test.YtnhgijlhnamolaaDoorPk02
import Derived.Test.YtnhgijlhnamolaaDoorPk04
import Derived.Test.YtnhgijlhnamolaaDoorPk31
namespace Go.Proofs.YtnhgijlhnamolaaDoor
set_option maxRecDepth 20000
open Go.RowKit
namespace Cx
open Va (Vl May ord null)
open Sc (tr tr_yes tr_no tr_iff)
open Co
set_option maxHeartbeats 8000000 in
theorem cput_any (A : Option Addr) (n c : Nat) (B : Option Addr) (m d : Nat) (C : Col) (w : World) (h : Cl w A n c B m d C) (hn : n ≤ 1000) (hm : m ≤ 1000000) :
    Calls Tryd.prog 14 #[.agg #[.int .i64 C.n, .slice A n c, .slice B m d]] w (Wd.Out2 w .u8 (put C).1 (put C).2) := by
  obtain ⟨i0, hi, hz0, hz1, hz2⟩ := info_parts info_y
  have hb0 := (Below.refl w.heap.size w).alloc (Nat.le_refl _) (.cells #[.int .i64 C.n, .slice A n c, .slice B m d] 27)
  have x0 := Cb.new w C.n A n c B m d
  have C1 := Lib.hid (cmay_any A n c B m d C _ (h.below hb0) hn hm)
  have Hb0 := Lib.hid hb0
  have HD := Lib.hid h.dict
  have HI := Lib.hid h.ids
  have Hn := Lib.hid h.dict.len
  have Hm := Lib.hid h.ids.len
  have hcap := h.dict.cap
  have hmx := h.dict.max
  have hcap2 := h.ids.cap
  have hmx2 := h.ids.max
  unfold maxLen at hmx hmx2
  have n1 := h.n1
  by_cases hv : Valid C
  case neg =>
    rw [put_no hv]
    have et := tr_no hv
    rw [et] at C1
    clear h hb0 hv et
    have c0 := x0.c0
    have c1 := x0.c1
    have c2 := x0.c2
    obtain ⟨N, hN⟩ : ∃ N, N = C.n := ⟨_, rfl⟩
    rw [← hN] at C1 Hb0 c0 c1 c2 ⊢
    clear hN x0 n1
    go_enter Tryd.func14, Tryd.ntmps14
    go_wp2_with fail
    refine C1.out.mono ?_
    rintro e w1 ⟨rfl, hB1⟩
    have Hb1 := Lib.hid (Hb0.out.trans (hB1.mono (by simp)))
    clear hB1 c0 c1 c2
    go_wp2_with fail
    go_ret2
    exact ⟨_, _, _, rfl, Wd.Sl.none_ _ _, Hb1.out⟩
  rw [put_yes hv]
  have et := tr_yes hv
  rw [et] at C1
  have n0 := hv.n0
  have HM := Lib.hid hv.ris.1
  obtain ⟨N, hN⟩ : ∃ N, N = C.n := ⟨_, rfl⟩
  have P1 := Lib.hid fun w => Vc.putLen_own none 0 0 [] N w (Wd.Sl.none_ _ _) (by omega) (by rw [hN]; exact n0) (by rw [hN]; exact n1)
  rw [List.nil_append] at P1
  have P2 := Lib.hid fun A5 n5 c5 w (h5 : Wd.Sl w .u8 A5 n5 c5 (Nm.vd N)) => Vc.putLen_own A5 n5 c5 (Nm.vd N) (n : Int) w h5 (by rw [h5.len]; have := (Nm.vd_len N).2; omega) (by omega) (by omega)
  have l1 := (Nm.vd_len N).2
  have l2 := (Nm.vd_len (n : Int)).2
  obtain ⟨T, hT⟩ : ∃ T : Nat → List Int, T = fun k => (Nm.vd N ++ Nm.vd (n : Int)) ++ putD (C.dict.take k) := ⟨_, rfl⟩
  have HT0 := Lib.hid (show T 0 = Nm.vd N ++ Nm.vd (n : Int) by rw [hT]; simp [putD])
  have HT1 := Lib.hid (show ∀ k, k < C.dict.length → T (k + 1) = T k ++ ([(C.dict.getD k default).kind] ++ Va.put (C.dict.getD k default)) from fun k hk => by
    rw [hT]
    show (Nm.vd N ++ Nm.vd (n : Int)) ++ putD (C.dict.take (k + 1)) = _
    rw [putD_next _ _ hk]
    simp)
  have HTn := Lib.hid (show T n ++ C.ids = puts C by
    rw [hT]
    show ((Nm.vd N ++ Nm.vd (n : Int)) ++ putD (C.dict.take n)) ++ C.ids = _
    rw [List.take_of_length_le (by rw [Hn.out]; exact Nat.le_refl _)]
    unfold puts
    rw [hN, Hn.out])
  have HTl := Lib.hid (show ∀ k, (T k).length ≤ 20 + 75 * k from fun k => by
    have h1 := putD_len (D := C.dict.take k) fun v hv' => HM.out v (List.mem_of_mem_take hv')
    have h2 : (C.dict.take k).length ≤ k := by simp; omega
    rw [hT]
    show (Nm.vd N ++ Nm.vd (n : Int) ++ putD (C.dict.take k)).length ≤ _
    simp only [List.length_append]
    omega)
  rw [← HTn.out]
  have hl1 := Lib.hid l1
  have hl2 := Lib.hid l2
  rw [← hN] at x0 C1 Hb0 ⊢
  have c0 := x0.c0
  have c1 := x0.c1
  have c2 := x0.c2
  clear h hb0 hv et hN n0 n1 hT l1 l2
  go_enter Tryd.func14, Tryd.ntmps14
  go_wp2_with fail
  refine C1.out.mono ?_
  rintro e w1 ⟨rfl, hB1⟩
  have y0 := x0.below (by simp) hB1
  have hlt1 := y0.lt
  have Hb1 := Lib.hid (Hb0.out.trans (hB1.mono (by simp)))
  clear hB1 c0 c1 c2 x0 C1
  have c0 := y0.c0
  have c1 := y0.c1
  have c2 := y0.c2
  go_wp2_with fail
  have hb := (Below.refl w1.heap.size w1).drew
  have z10 : w1.drew.cell? ⟨w.heap.size, 0, none⟩ = some (.int .i64 N) ∧ w1.drew.cell? ⟨w.heap.size, 1, none⟩ = some (.slice A n c) := ⟨c0, c1⟩
  go_region_held3 (fun w' => w'.cell? ⟨w.heap.size, 0, none⟩ = some (.int .i64 N) ∧ w'.cell? ⟨w.heap.size, 1, none⟩ = some (.slice A n c)) (with_reducible first | exact z10) (first
    | (go_at_call 35; (with_reducible refine (P1.out _).mono ?_); rintro e w5 ⟨v5, rfl, hO5, hB5⟩; obtain ⟨A5, n5, c5, rfl, hS5⟩ := Wd.Sl.of_own hO5; have hb := hb.trans (hB5.mono hb.size); have y9 := y0.below hlt1 hb; have z10 := And.intro y9.c0 y9.c1)
    | (go_at_call 35; (with_reducible refine (P2.out A5 n5 c5 _ hS5).mono ?_); rintro e w8 ⟨v8, rfl, hO6, hB8⟩; have hO8 := Wd.own_down hO6 hb.size; have hb := hb.trans (hB8.mono hb.size); have y9 := y0.below hlt1 hb; have z10 := And.intro y9.c0 y9.c1))
  have hb8 := hb
  have HB8 := Lib.hid hb8
  have hlt8 := y9.lt
  have y8 := y9
  have hs8 := hb8.size
  rw [← HT0.out] at hO8
  have HO8 := Lib.hid hO8
  have c1' := y9.c1
  clear z10 c0 c1 c2 hO5 hO6 hS5 hB5 hB8 hb hb8 y9 P1 P2 hO8
  go_wp2_with fail
  go_loopw [4, 22] (fun v j wr => ∃ k : Nat, j = .int .i64 k ∧ k ≤ n ∧ wr.ownsRow w1.heap.size 5 1 v (T k).length ((T k).map (Value.int .u8)) ∧ Below w1.heap.size w8 wr) (fun _ j _ => n - (intOf j).toNat)
  case atStart => exact ⟨0, rfl, Nat.zero_le _, HO8.out, Below.refl _ _⟩
  case round =>
    obtain ⟨k, rfl, hk, hO, hB⟩ := hrel
    have yr := y8.below hlt1 hB
    by_cases hkn : k < n
    · have hkI : (k : Int) < n := by omega
      have hk0 : (0 : Int) ≤ (k : Int) := by omega
      have hkD : k < C.dict.length := by rw [← Hn.out]; exact hkn
      have hHD := (HD.out.below (Hb1.out.trans ((HB8.out.trans hB).mono Hb1.out.size)))
      obtain ⟨e, f, hA, heB, d0, d1, d2, d3, hv1⟩ := hHD.cells (j := k) hkD rfl
      subst hA
      have hT := HT1.out k hkD
      have hmay := HM.out (C.dict.getD k default) (by rw [List.getD_eq_getElem?_getD, List.getElem?_eq_getElem hkD]; exact List.getElem_mem hkD)
      obtain ⟨y, hy⟩ : ∃ y, y = C.dict.getD k default := ⟨_, rfl⟩
      rw [← hy] at d0 d1 d2 d3 hv1 hT hmay
      obtain ⟨vk, vi, vs, vb⟩ := y
      have hkd := may_kind hmay
      simp only [] at hkd
      have hwk : IntKind.u8.wrap vk = vk := by
        have : vk = 0 ∨ vk = 1 ∨ vk = 2 ∨ vk = 3 := by omega
        rcases this with rfl | rfl | rfl | rfl <;> rfl
      have hbd := bounds_i64 hv1.w1
      have CP := Lib.hid fun A n c w (hS : Wd.Sl w .u8 A n c [vk]) => Vc.Put_own A n c [vk] vk vi vs vb w hS (by rw [hS.len]; simp) hbd.1 hbd.2 hmay
      have hpl := Va.put_len hmay
      obtain ⟨ds, hds⟩ : ∃ ds, ds = [vk] ++ Va.put ⟨vk, vi, vs, vb⟩ := ⟨_, rfl⟩
      have hdl : ds.length ≤ 75 := by rw [hds]; simp; omega
      rw [← hds] at CP
      replace hT : T (k + 1) = T k ++ ds := by rw [hds]; exact hT
      have HT := Lib.hid hT
      have htl := HTl.out k
      have HO := Lib.hid hO
      have HBr := Lib.hid hB
      have hsr := hB.size
      have hb3 := ((Below.refl wr.heap.size wr).alloc (Nat.le_refl _) (.cells #[.int .i64 vk, .int .i64 vi, .string vs, .bool vb] 48))
      have hlit := Wd.Sl.lit (wr.alloc (.cells #[.int .i64 vk, .int .i64 vi, .string vs, .bool vb] 48)) .u8 [vk] 5 #[.int .u8 vk] 1 rfl rfl (by decide)
      rw [World.size_alloc] at hlit
      have Hlit := Lib.hid hlit
      have hb4 : Below wr.heap.size wr ((wr.alloc (.cells #[.int .i64 vk, .int .i64 vi, .string vs, .bool vb] 48)).alloc (.cells #[.int .u8 vk] 5)) := hb3.alloc hb3.size _
      have Hb4 := Lib.hid hb4
      clear hT hmay hy hv1 hbd hds hO hB hHD hkD hpl hlit hb3 hb4
      go_wp2_with fail
      refine (CP.out _ _ _ _ Hlit.out).mono ?_
      rintro e3 w3 ⟨v3, rfl, hO3, hB3⟩
      have hb5 := Hb4.out.trans (hB3.mono Hb4.out.size)
      have hO4 := Wd.own_below HO.out hb5
      obtain ⟨A3, n3, c3, rfl, hS3⟩ := Wd.Sl.of_own hO3
      have hA5 : Below w1.heap.size w8 w3 := HBr.out.trans (hb5.mono (Nat.le_trans hs8 hsr))
      have hz5 := Nat.le_trans hs8 hA5.size
      clear d0 d1 d2 d3 hB3 hO3 CP hb5
      go_wp2_with (at_builtin; refine Wd.wpList_app _ rfl (.tmp 38) (.tmp 39) 25 rfl w1.heap.size 5 i0 _ .u8 1 Tryd.underlying25 hi hz0 hz1 hz2 rfl _ (T k) rfl hO4 _ A3 n3 c3 ds rfl hS3.len hS3.nil hS3.rd (by omega) (by unfold maxLen; omega) hz5 ?_; intro v6 w6 hO6 hg6; have hb6 : Below w1.heap.size w8 w6 := hA5.grown hg6 hz5 fun g hg => (hO4.lt g hg).1)
      go_roundw
      case rel => exact ⟨k + 1, by go_num, by omega, by rw [HT.out]; exact hO6, hb6⟩
      case measure => simp [intOf]; omega
    · have hkI : ¬ (k : Int) < n := by omega
      obtain rfl : k = n := by omega
      have hI := HI.out.below (Hb1.out.trans ((HB8.out.trans hB).mono Hb1.out.size))
      have htl := HTl.out k
      have Hil := Lib.hid hI.len
      have hic := hI.cap
      have hnl := hI.nil
      have hrd := hI.rd
      clear hI
      have hsr := hB.size
      have hbr := Hb1.out.trans ((HB8.out.trans hB).mono Hb1.out.size)
      have hs1 := Hb1.out.size
      have hsw : w1.heap.size ≤ wr.heap.size := Nat.le_trans hs8 hsr
      have c1 := yr.c1
      have c2 := yr.c2
      go_wp2_with (at_builtin; refine Wd.wpList_app _ rfl (.tmp 42) (.tmp 44) 25 rfl w1.heap.size 5 i0 _ .u8 1 Tryd.underlying25 hi hz0 hz1 hz2 rfl _ (T k) rfl hO _ B m d C.ids rfl Hil.out hnl hrd (by have := Hil.out; omega) (by unfold maxLen; have := Hil.out; omega) hsw ?_; intro v6 w6 hO6 hg6; have hb6 : Below w.heap.size w w6 := hbr.grown hg6 hbr.size fun g hg => Nat.le_trans hs1 (hO.lt g hg).1)
      go_ret2
      obtain ⟨A7, n7, c7, rfl, hS7⟩ := Wd.Sl.of_own hO6
      exact ⟨A7, n7, c7, rfl, hS7, hb6⟩
end Cx
end Go.Proofs.YtnhgijlhnamolaaDoor
namespace Go.Proofs.YtnhgijlhnamolaaDoor
set_option maxRecDepth 20000
open Go.RowKit
namespace Nc

/-- Three numbers as Go's three results. -/
def three (k : IntKind) (p : Int × Int × Int) : Value := .tuple #[.int k p.1, .int .i64 p.2.1, .int .i64 p.2.2]

theorem three_eq {k : IntKind} {a b c : Int} {p : Int × Int × Int} (h : (a, b, c) = p) : Ending.returned (.tuple #[.int k a, .int .i64 b, .int .i64 c]) = .returned (three k p) := by subst h; rfl

set_option maxHeartbeats 400000 in
theorem getVarint_any (A : Option Addr) (n c : Nat) (bs : List Int) (w : World) (hb : Wd.Sl w .u8 A n c bs) (hB : Nm.Byt bs) :
    Calls Tryd.prog 83 #[.slice A n c] w fun e w' => e = .returned (three .u64 (Nm.gv bs)) ∧ w = w' := by
  obtain ⟨rfl, hc, hx, hA, hr⟩ := hb
  unfold maxLen at hx
  rcases Nat.eq_zero_or_pos bs.length with h0 | h0
  · obtain rfl : bs = [] := List.eq_nil_of_length_eq_zero h0
    go_enter Tryd.func83, Tryd.ntmps83
    go_wp2
    refine wp_loop_rounds 1 ?_
    rw [rounds_succ]
    go_wp2
    go_ret3
    exact ⟨rfl, rfl⟩
  · obtain ⟨b, o, rfl, hlt, hcell⟩ := hr.some_ h0
    clear hr hA
    go_enter Tryd.func83, Tryd.ntmps83
    go_wp2
    go_loop [5, 10] (fun a i => ∃ (k : Nat) (acc : Int), i = .int .i64 k ∧ a = .int .u64 acc ∧ k ≤ bs.length ∧ k ≤ 9 ∧ 0 ≤ acc ∧ acc < 128 ^ k ∧ Nm.gvF k acc (bs.drop k) = Nm.gv bs) (fun _ i => bs.length - (intOf i).toNat)
    case atStart => exact ⟨0, 0, rfl, rfl, Nat.zero_le _, Nat.zero_le _, Int.le_refl _, by decide, rfl⟩
    case round =>
      obtain ⟨k, acc, rfl, rfl, hk, hk9, ha0, ha1, hg⟩ := hrel
      have Hg := Lib.hid hg
      clear hg
      by_cases hlt : k < bs.length
      · obtain ⟨x, hx'⟩ : ∃ x, x = bs.getD k 0 := ⟨_, rfl⟩
        have hd : bs.drop k = x :: bs.drop (k + 1) := by
          rw [hx', List.drop_eq_getElem_cons hlt]; simp [List.getD, hlt]
        have hcx := hcell k hlt
        rw [← hx'] at hcx
        have hxb : 0 ≤ x ∧ x ≤ 255 := hB x (by rw [hx']; simp [List.getD, hlt])
        obtain ⟨hx0, hx1⟩ := hxb
        have Hd := Lib.hid hd
        clear hd hx' hcell
        rcases Nat.lt_or_ge k 9 with q1 | q1; rotate_left
        · by_cases q2 : 1 < x
          · go_wp2_with fail
            go_ret3
            refine ⟨three_eq (a := 0) (b := 0) (c := 7) ?_, rfl⟩
            rw [← Hg.out, Hd.out, Nm.gvF, if_pos ⟨by omega, q2⟩]
          · rcases (show x ≤ 0 ∨ 0 < x by omega) with q3 | q3
            · go_wp2_with fail
              go_ret3
              refine ⟨three_eq (a := 0) (b := 0) (c := 7) ?_, rfl⟩
              rw [← Hg.out, Hd.out, Nm.gvF, if_neg (by omega), if_neg (by omega), if_pos (by omega)]
            · go_wp2_with fail
              go_ret3
              refine ⟨three_eq (a := bits BinOp.or IntKind.u64 acc (x % 128 * 9223372036854775808)) (b := 10) (c := 0) ?_, rfl⟩
              rw [← Hg.out, Hd.out, Nm.gvF, if_neg (by omega), if_neg (by omega), if_neg (by omega)]
              obtain rfl : x = 1 := by omega
              obtain rfl : k = 9 := by omega
              have := Nm.or_last acc ha0 ha1
              simp only [Prod.mk.injEq, and_true]
              exact ⟨this, rfl⟩
        · by_cases q2 : 128 ≤ x
          · go_wp2_with fail
            have hs := Nm.or_step k acc x q1 ha0 ha1
            go_round
            case rel =>
              rw [hs]
              refine ⟨k + 1, _, by go_num, rfl, by omega, by omega, Nm.or_step_lo k acc x ha0, Nm.or_step_lt k acc x ha1, ?_⟩
              rw [← Hg.out, Hd.out, Nm.gvF, if_neg (by omega), if_pos q2]
            case measure => simp [intOf]; omega
          · rcases (show x ≤ 0 ∨ 0 < x by omega) with q3 | q3
            · rcases (show k ≤ 0 ∨ 0 < k by omega) with q4 | q4
              · go_wp2_with fail
                go_ret3
                refine ⟨three_eq (a := bits BinOp.or IntKind.u64 acc (IntKind.u64.wrap 0)) (b := (k : Int) + 1) (c := 0) ?_, rfl⟩
                have hs := Nm.or_step k acc 0 q1 ha0 ha1
                rw [← Hg.out, Hd.out, Nm.gvF, if_neg (by omega), if_neg (by omega), if_neg (by omega)]
                obtain rfl : x = 0 := by omega
                simpa using hs
              · go_wp2_with fail
                go_ret3
                refine ⟨three_eq (a := 0) (b := 0) (c := 7) ?_, rfl⟩
                rw [← Hg.out, Hd.out, Nm.gvF, if_neg (by omega), if_neg (by omega), if_pos (by omega)]
            · go_wp2_with fail
              go_ret3
              refine ⟨three_eq (a := bits BinOp.or IntKind.u64 acc (IntKind.u64.wrap (x % 128 * 2 ^ (7 * k)))) (b := (k : Int) + 1) (c := 0) ?_, rfl⟩
              have hs := Nm.or_step k acc x q1 ha0 ha1
              rw [← Hg.out, Hd.out, Nm.gvF, if_neg (by omega), if_neg (by omega), if_neg (by omega), hs]
              rw [Int.emod_eq_of_lt hx0 (by omega)]
      · go_wp2_with fail
        go_ret3
        refine ⟨three_eq (a := 0) (b := 0) (c := 6) ?_, rfl⟩
        rw [← Hg.out, List.drop_of_length_le (by omega)]
        rfl

theorem getLen_any (A : Option Addr) (n c : Nat) (bs : List Int) (w : World) (hb : Wd.Sl w .u8 A n c bs) (hB : Nm.Byt bs) :
    Calls Tryd.prog 66 #[.slice A n c] w fun e w' => e = .returned (three .i64 (Nm.getL bs)) ∧ w = w' := by
  by_cases h : (Nm.gv bs).2.2 = 0
  · obtain ⟨k, u, hk, k1, k2, k3, u0, u1, _⟩ := Nm.gv_only bs hB h
    have hc := (getVarint_any A n c bs w hb hB)
    by_cases hu : 9223372036854775807 < u
    · have hr : Nm.getL bs = (0, 0, 7) := by unfold Nm.getL; rw [hk]; exact if_pos hu
      rw [hk] at hc
      have Hr := Lib.hid hr
      have Hc := Lib.hid hc
      clear hk hr hc h
      go_enter Tryd.func66, Tryd.ntmps66
      go_wp2_with fail
      refine Hc.out.mono ?_
      rintro e w' ⟨rfl, rfl⟩
      unfold three
      go_wp2_with fail
      go_ret3
      rw [Hr.out]
      exact ⟨rfl, rfl⟩
    · have hr : Nm.getL bs = (u, (k : Int), 0) := by unfold Nm.getL; rw [hk]; exact if_neg hu
      rw [hk] at hc
      have Hr := Lib.hid hr
      have Hc := Lib.hid hc
      clear hk hr hc h
      go_enter Tryd.func66, Tryd.ntmps66
      go_wp2_with fail
      refine Hc.out.mono ?_
      rintro e w' ⟨rfl, rfl⟩
      unfold three
      go_wp2_with fail
      go_ret3
      rw [Hr.out]
      exact ⟨rfl, rfl⟩
  · rcases Nm.gv_err bs with q | q | q
    · exact absurd q h
    all_goals
      have hr : Nm.getL bs = Nm.gv bs := by unfold Nm.getL; rw [q]; rfl
      have hc := (getVarint_any A n c bs w hb hB)
      rw [q] at hc hr
      have Hc := Lib.hid hc
      have Hr := Lib.hid hr
      clear hc hr q h
      go_enter Tryd.func66, Tryd.ntmps66
      go_wp2_with fail
      refine Hc.out.mono ?_
      rintro e w' ⟨rfl, rfl⟩
      unfold three
      go_wp2_with fail
      go_ret3
      rw [Hr.out]
      exact ⟨rfl, rfl⟩
end Nc
end Go.Proofs.YtnhgijlhnamolaaDoor
namespace Go.Proofs.YtnhgijlhnamolaaDoor
set_option maxRecDepth 20000
open Go.RowKit
namespace Nc

theorem unzigzag_any (u : Int) (w : World) (h1 : 0 ≤ u) (h2 : u ≤ 18446744073709551615) :
    Calls Tryd.prog 117 #[.int .u64 u] w fun e w' => e = .returned (.int .i64 (Nm.unz u)) ∧ w = w' := by
  go_enter Tryd.func117, Tryd.ntmps117
  go_wp2
  go_ret
  exact ⟨congrArg (fun x => Ending.returned (.int .i64 x)) (Nm.unzig_bits u h1 h2), rfl⟩

theorem get_any (A : Option Addr) (n c : Nat) (bs : List Int) (w : World) (hb : Wd.Sl w .u8 A n c bs) (hB : Nm.Byt bs) :
    Calls Tryd.prog 111 #[.slice A n c] w fun e w' => e = .returned (three .i64 (Nm.getI bs)) ∧ w = w' := by
  by_cases h : (Nm.gv bs).2.2 = 0
  · obtain ⟨k, u, hk, k1, k2, k3, u0, u1, _⟩ := Nm.gv_only bs hB h
    have hr : Nm.getI bs = (Nm.unz u, (k : Int), 0) := by unfold Nm.getI; rw [hk]; rfl
    have Hr := Lib.hid hr
    have hc := (getVarint_any A n c bs w hb hB)
    rw [hk] at hc
    have Hc := Lib.hid hc
    clear hk hr hc h
    go_enter Tryd.func111, Tryd.ntmps111
    go_wp2_with fail
    refine Hc.out.mono ?_
    rintro e w' ⟨rfl, rfl⟩
    unfold three
    go_wp2_with fail
    refine (unzigzag_any u w u0 u1).mono ?_
    rintro e w' ⟨rfl, rfl⟩
    go_wp2_with fail
    go_ret3
    rw [Hr.out]
    exact ⟨rfl, rfl⟩
  · rcases Nm.gv_err bs with q | q | q
    · exact absurd q h
    all_goals
      have hr : Nm.getI bs = Nm.gv bs := by unfold Nm.getI; rw [q]; rfl
      have hc := (getVarint_any A n c bs w hb hB)
      rw [q] at hc hr
      have Hc := Lib.hid hc
      have Hr := Lib.hid hr
      clear hc hr q h
      go_enter Tryd.func111, Tryd.ntmps111
      go_wp2_with fail
      refine Hc.out.mono ?_
      rintro e w' ⟨rfl, rfl⟩
      unfold three
      go_wp2_with fail
      go_ret3
      rw [Hr.out]
      exact ⟨rfl, rfl⟩

end Nc
end Go.Proofs.YtnhgijlhnamolaaDoor
