/- Package file: bytes that are no segment's file are not read as one. What value.Put does, with whose memory the bytes are. Package column: Put. -/
import Derived.Test.YtaoeipehpakngaaGreatDoorPb34
import Derived.Test.YtaoeipehpakngaaGreatDoorPb09
import Derived.Test.YtaoeipehpakngaaGreatDoorPb18
import Derived.Test.YtaoeipehpakngaaGreatDoorPb23
namespace Go.Proofs.YtaoeipehpakngaaGreatDoor
set_option maxRecDepth 20000
open Go.RowKit
namespace Fi
open Se (Seg Sg Gb box6 mv6)
open Wd (Cr)
theorem rd_count (b : List Int) : ∀ n, b.length ≤ n → (Fr.rd b).1.length ≤ b.length := by
  intro n
  induction n generalizing b with
  | zero =>
    intro h
    obtain rfl := List.eq_nil_of_length_eq_zero (Nat.le_zero.1 h)
    rw [Fr.rd_nil]
    exact Nat.le_refl _
  | succ n ih =>
    intro h
    cases ho : Fr.openF b with
    | none => rw [Fr.rd_none ho]; exact Nat.zero_le _
    | some r =>
      obtain ⟨p, k⟩ := r
      have l := Fr.openF_le ho
      rw [Fr.rd_some ho]
      have := ih (b.drop k) (by rw [List.length_drop]; omega)
      rw [List.length_drop] at this
      show ((Fr.rd (b.drop k)).1.length + 1) ≤ b.length
      omega
theorem bad_kind {x : Seg} {ps : List (List Int)} (h : Bad x ps) : ps = [] ∨ ps = [head x] ∨ ∃ r, ps = head x :: Rn.enc x.offs :: r ∧ r.length ≠ x.cols.length := by
  rcases h with ⟨q, hq, rfl⟩ | ⟨m, hm, rfl⟩
  · rw [pays_len] at hq
    unfold pays
    match q, hq with
    | 0, _ => exact .inl rfl
    | 1, _ => exact .inr (.inl rfl)
    | j + 2, hq => exact .inr (.inr ⟨_, rfl, by rw [List.length_take, List.length_map]; omega⟩)
  · refine .inr (.inr ⟨x.cols.map Co.puts ++ m, rfl, ?_⟩)
    rw [List.length_append, List.length_map]
    have := List.length_pos_iff.2 hm
    omega
def OutNo (w : World) (e : Ending) (w' : World) : Prop :=
  ∃ a b c d OA on oc CA cn cc, e = .returned (.tuple #[.agg #[.int .i64 a, .int .i64 b, .int .i64 c, .int .i64 d, .slice OA on oc, .slice CA cn cc], .bool false]) ∧ Below w.heap.size w w'
set_option maxHeartbeats 8000000 in
theorem read_no (A : Option Addr) (n c : Nat) (ys : List Int) (x : Seg) (w : World) (hS : Wd.Sl w .u8 A n c ys) (hB : Nm.Byt ys) (hx : Nice x) (hn : n ≤ 1000000) (hbad : (Fr.rd ys).2 ≠ ys.length ∨ Bad x (Fr.rd ys).1) :
    Calls Tryz.prog 29 #[.slice A n c, .int .i64 (x.cols.length : Int)] w (OutNo w) := by
  have b0 := (Below.refl w.heap.size w).alloc (Nat.le_refl _) (.cells #[.int .i64 0, .int .i64 0, .int .i64 0, .int .i64 0, .slice none 0 0, .slice none 0 0] 28)
  have r0 := Gb.new w 0 0 0 0 none 0 0 none 0 0
  obtain ⟨wa, hwa⟩ : ∃ wa, wa = w.alloc (.cells #[.int .i64 0, .int .i64 0, .int .i64 0, .int .i64 0, .slice none 0 0, .slice none 0 0] 28) := ⟨_, rfl⟩
  rw [← hwa] at b0 r0
  have Cr := Fc.read_any A n c ys wa (hS.below b0) hn hB
  have hcnt : (Fr.rd ys).1.length ≤ 1000000 := by have := rd_count ys _ (Nat.le_refl _); have := hS.len; omega
  rw [← hS.len] at hbad
  obtain ⟨ps, hps⟩ : ∃ ps, ps = (Fr.rd ys).1 := ⟨_, rfl⟩
  obtain ⟨E, hE⟩ : ∃ E, E = (Fr.rd ys).2 := ⟨_, rfl⟩
  rw [← hps] at hbad hcnt Cr
  rw [← hE] at hbad Cr
  have Cr := Lib.hid Cr
  obtain ⟨N, hN⟩ : ∃ N, N = x.cols.length := ⟨_, rfl⟩
  have HN := Lib.hid hN
  rw [← hN]
  have B0 := Lib.hid b0
  have R0 := Lib.hid r0
  have Hwa := Lib.hid hwa
  have hr0 : w.heap.size < wa.heap.size := r0.lt
  have Hx := Lib.hid hx
  have Hcnt := Lib.hid hcnt
  clear hwa b0 r0 hS hN hB hps hE hcnt hx
  go_enter Tryz.func29, Tryz.ntmps29
  go_upto_region 1 with fail
  rw [← Hwa.out]
  go_wp2_with fail
  refine Cr.out.mono ?_
  rintro e w1 ⟨PA, pn, pc, rfl, hP, hB1⟩
  have R1 := Lib.hid (R0.out.below R0.out.lt hB1)
  have B1 := Lib.hid (B0.out.trans (hB1.mono B0.out.size))
  have hr1 : w.heap.size < w1.heap.size := Nat.lt_of_lt_of_le hr0 hB1.size
  have L2 := Lib.hid (list_new hP)
  obtain ⟨w2, hw2⟩ : ∃ w2, w2 = w1.alloc (.cells #[.int .i64 0, .int .i64 0, .int .i64 0, .int .i64 0, .slice none 0 0, .slice none 0 0, .slice PA pn pc] 103) := ⟨_, rfl⟩
  rw [← hw2] at L2
  have Hw2 := Lib.hid hw2
  clear hw2 hP hB1 Cr hr0
  go_upto_region 3 with fail
  rw [← Hw2.out]
  have HE := Lib.hid (show ∀ wz a b c d OA on oc ps, Lb w1 wz w1.heap.size a b c d OA on oc none 0 0 ps → Gb wz w.heap.size 0 0 0 0 none 0 0 none 0 0 ∧ Below w.heap.size w wz from fun wz a b c d OA on oc ps h => ⟨R1.out.below hr1 h.bel, B1.out.trans (h.bel.mono B1.out.size)⟩)
  by_cases he : E = n
  case neg =>
    have q0 : ((E : Int) == (n : Int)) = false := by simp; omega
    have hL := L2.out
    clear he hbad
    obtain ⟨d0, d1, d2, d3, d4, d5⟩ := hL.six
    obtain ⟨R5, B5⟩ := HE.out _ _ _ _ _ _ _ _ _ hL
    obtain ⟨u0, u1, u2, u3, u4, u5⟩ := Gb.six R5
    have f0 := R5.free 0
    have f1 := R5.free 1
    have f2 := R5.free 2
    have f3 := R5.free 3
    have f4 := R5.free 4
    have f5 := R5.free 5
    have M6 := mv6 _ w.heap.size (.int .i64 0) (.int .i64 0) (.int .i64 0) (.int .i64 0) (.slice none 0 0) (.slice none 0 0) |>.below (w := w2) (fun g e => by rw [e]; exact Nat.le_refl _) B5.size
    have K6 := Lib.hid (box6 (x0 := .int .i64 0) (x1 := .int .i64 0) (x2 := .int .i64 0) (x3 := .int .i64 0) (x4 := .slice none 0 0) (x5 := .slice none 0 0) R5)
    have B6 := Lib.hid (B5.trans M6)
    clear M6 R5 B5 hL
    go_wp2_with fail
    have g0 := K6.out.cell 0
    have g1 := K6.out.cell 1
    have g2 := K6.out.cell 2
    have g3 := K6.out.cell 3
    have g4 := K6.out.cell 4
    have g5 := K6.out.cell 5
    refine bodyPost_ret (v := .tuple #[.agg #[.int .i64 0, .int .i64 0, .int .i64 0, .int .i64 0, .slice none 0 0, .slice none 0 0], .bool false]) ?_ rfl ⟨_, _, _, _, _, _, _, _, _, _, rfl, B6.out⟩
    rw [Cx.res_cell2 rfl]; go_simp
  have hk := Lib.hid (bad_kind (hbad.resolve_left fun z => z he))
  subst he
  have q0 : ((E : Int) == (E : Int)) = true := by simp
  clear hbad
  rcases hk.out with h0 | h0 | ⟨r, h0, hr⟩
  · subst h0
    have Ch := Lib.hid (readHead_nil (N : Int) L2.out)
    go_wp2_with fail
    refine Ch.out.mono ?_
    rintro e w3 ⟨rfl, hB3⟩
    have hL := L2.out.below hB3
    clear hB3 Ch
    obtain ⟨d0, d1, d2, d3, d4, d5⟩ := hL.six
    obtain ⟨R5, B5⟩ := HE.out _ _ _ _ _ _ _ _ _ hL
    obtain ⟨u0, u1, u2, u3, u4, u5⟩ := Gb.six R5
    have f0 := R5.free 0
    have f1 := R5.free 1
    have f2 := R5.free 2
    have f3 := R5.free 3
    have f4 := R5.free 4
    have f5 := R5.free 5
    have M6 := mv6 _ w.heap.size (.int .i64 0) (.int .i64 0) (.int .i64 0) (.int .i64 0) (.slice none 0 0) (.slice none 0 0) |>.below (w := w3) (fun g e => by rw [e]; exact Nat.le_refl _) B5.size
    have K6 := Lib.hid (box6 (x0 := .int .i64 0) (x1 := .int .i64 0) (x2 := .int .i64 0) (x3 := .int .i64 0) (x4 := .slice none 0 0) (x5 := .slice none 0 0) R5)
    have B6 := Lib.hid (B5.trans M6)
    clear M6 R5 B5 hL
    go_wp2_with fail
    have g0 := K6.out.cell 0
    have g1 := K6.out.cell 1
    have g2 := K6.out.cell 2
    have g3 := K6.out.cell 3
    have g4 := K6.out.cell 4
    have g5 := K6.out.cell 5
    refine bodyPost_ret (v := .tuple #[.agg #[.int .i64 0, .int .i64 0, .int .i64 0, .int .i64 0, .slice none 0 0, .slice none 0 0], .bool false]) ?_ rfl ⟨_, _, _, _, _, _, _, _, _, _, rfl, B6.out⟩
    rw [Cx.res_cell2 rfl]; go_simp
  · subst h0
    have Ch := readHead_yes Hx.out L2.out (by simp)
    rw [← HN.out] at Ch
    have Ch := Lib.hid Ch
    go_wp2_with fail
    refine Ch.out.mono ?_
    rintro e w3 ⟨rfl, hL3, hM3⟩
    have Co := Lib.hid (readOffsets_nil hL3)
    clear hL3 hM3 Ch
    go_wp2_with fail
    refine Co.out.mono ?_
    rintro e w4 ⟨rfl, hL⟩
    clear Co
    obtain ⟨d0, d1, d2, d3, d4, d5⟩ := hL.six
    obtain ⟨R5, B5⟩ := HE.out _ _ _ _ _ _ _ _ _ hL
    obtain ⟨u0, u1, u2, u3, u4, u5⟩ := Gb.six R5
    have f0 := R5.free 0
    have f1 := R5.free 1
    have f2 := R5.free 2
    have f3 := R5.free 3
    have f4 := R5.free 4
    have f5 := R5.free 5
    have M6 := mv6 _ w.heap.size (.int .i64 x.part) (.int .i64 x.id) (.int .i64 x.st) (.int .i64 x.en) (.slice none 0 0) (.slice none 0 0) |>.below (w := w4) (fun g e => by rw [e]; exact Nat.le_refl _) B5.size
    have K6 := Lib.hid (box6 (x0 := .int .i64 x.part) (x1 := .int .i64 x.id) (x2 := .int .i64 x.st) (x3 := .int .i64 x.en) (x4 := .slice none 0 0) (x5 := .slice none 0 0) R5)
    have B6 := Lib.hid (B5.trans M6)
    clear M6 R5 B5 hL
    go_wp2_with fail
    have g0 := K6.out.cell 0
    have g1 := K6.out.cell 1
    have g2 := K6.out.cell 2
    have g3 := K6.out.cell 3
    have g4 := K6.out.cell 4
    have g5 := K6.out.cell 5
    refine bodyPost_ret (v := .tuple #[.agg #[.int .i64 x.part, .int .i64 x.id, .int .i64 x.st, .int .i64 x.en, .slice none 0 0, .slice none 0 0], .bool false]) ?_ rfl ⟨_, _, _, _, _, _, _, _, _, _, rfl, B6.out⟩
    rw [Cx.res_cell2 rfl]; go_simp
  · subst h0
    have hrl : r.length ≤ 1000000 := by have := Hcnt.out; rw [List.length_cons, List.length_cons] at this; omega
    have Ch := readHead_yes Hx.out L2.out (by have := Hcnt.out; rw [List.length_cons, List.length_cons] at this; rw [List.length_cons]; omega)
    rw [← HN.out] at Ch
    have Ch := Lib.hid Ch
    have Hrn := Lib.hid (show r.length ≠ N by rw [HN.out]; exact hr)
    have Hrl := Lib.hid hrl
    clear hr hrl
    go_wp2_with fail
    refine Ch.out.mono ?_
    rintro e w3 ⟨rfl, hL3, hM3⟩
    have Co := Lib.hid (readOffsets_yes hL3 Hrl.out Hx.out.len Hx.out.fit)
    clear hL3 hM3 Ch
    go_wp2_with fail
    refine Co.out.mono ?_
    rintro e w4 ⟨rfl, YA, yn, yc, hL, hS4, hM4⟩
    have Cc := Lib.hid (readColumns_no hL Hrn.out)
    clear hS4 hM4 Co
    go_wp2_with fail
    refine Cc.out.mono ?_
    rintro e w5 ⟨rfl, rfl⟩
    clear Cc
    obtain ⟨d0, d1, d2, d3, d4, d5⟩ := hL.six
    obtain ⟨R5, B5⟩ := HE.out _ _ _ _ _ _ _ _ _ hL
    obtain ⟨u0, u1, u2, u3, u4, u5⟩ := Gb.six R5
    have f0 := R5.free 0
    have f1 := R5.free 1
    have f2 := R5.free 2
    have f3 := R5.free 3
    have f4 := R5.free 4
    have f5 := R5.free 5
    have M6 := mv6 _ w.heap.size (.int .i64 x.part) (.int .i64 x.id) (.int .i64 x.st) (.int .i64 x.en) (.slice YA yn yc) (.slice none 0 0) |>.below (w := w5) (fun g e => by rw [e]; exact Nat.le_refl _) B5.size
    have K6 := Lib.hid (box6 (x0 := .int .i64 x.part) (x1 := .int .i64 x.id) (x2 := .int .i64 x.st) (x3 := .int .i64 x.en) (x4 := .slice YA yn yc) (x5 := .slice none 0 0) R5)
    have B6 := Lib.hid (B5.trans M6)
    clear M6 R5 B5 hL
    go_wp2_with fail
    have g0 := K6.out.cell 0
    have g1 := K6.out.cell 1
    have g2 := K6.out.cell 2
    have g3 := K6.out.cell 3
    have g4 := K6.out.cell 4
    have g5 := K6.out.cell 5
    refine bodyPost_ret (v := .tuple #[.agg #[.int .i64 x.part, .int .i64 x.id, .int .i64 x.st, .int .i64 x.en, .slice YA yn yc, .slice none 0 0], .bool false]) ?_ rfl ⟨_, _, _, _, _, _, _, _, _, _, rfl, B6.out⟩
    rw [Cx.res_cell2 rfl]; go_simp
end Fi
namespace Vc
open Va Nc
theorem put_own (A : Option Addr) (m c : Nat) (bs : List Int) (n : Int) (w : World) (hb : Wd.Sl w .u8 A m c bs) (hm : m ≤ 10000000) (h0 : -9223372036854775808 ≤ n) (h1 : n ≤ 9223372036854775807) :
    Calls Tryz.prog 150 #[.slice A m c, .int .i64 n] w fun e w' => ∃ v, e = .returned v ∧ w'.ownsRow w.heap.size 5 1 v (bs ++ Nm.vd (Nm.zz n)).length ((bs ++ Nm.vd (Nm.zz n)).map (Value.int .u8)) ∧ Below w.heap.size w w' := by
  have hz0 := Nm.zz_lo n
  have hz1 := Nm.zz_hi n h0 h1
  obtain ⟨rfl, hc, _, _, hr⟩ := hb
  have Hp := Lib.hid (putVarint_own A c bs (Nm.zz n) w hr hc hm hz0 hz1)
  go_enter Tryz.func150, Tryz.ntmps150
  go_wp2_with fail
  refine (zigzag_any n w h0 h1).mono ?_
  rintro e w' ⟨rfl, rfl⟩
  go_wp2_with fail
  refine Hp.out.mono ?_
  rintro e w' ⟨v, rfl, hO⟩
  go_wp2_with fail
  go_ret
  exact ⟨v, rfl, hO⟩
def OutO (w : World) (L : List Int) (e : Ending) (w' : World) : Prop :=
  ∃ v, e = .returned (.tuple #[v, .int .i64 0]) ∧ w'.ownsRow w.heap.size 5 1 v L.length (L.map (Value.int .u8)) ∧ Below w.heap.size w w'
set_option maxHeartbeats 2000000 in
theorem Put_own (A : Option Addr) (n c : Nat) (bs : List Int) (k i : Int) (s : ByteArray) (b : Bool) (w : World) (hS : Wd.Sl w .u8 A n c bs) (hm : n ≤ 1000000) (h0 : -9223372036854775808 ≤ i) (h1 : i ≤ 9223372036854775807) (hM : May ⟨k, i, s, b⟩) :
    Calls Tryz.prog 94 #[.slice A n c, .agg #[.int .i64 k, .int .i64 i, .string s, .bool b]] w (OutO w (bs ++ Va.put ⟨k, i, s, b⟩)) := by
  obtain ⟨i0, hi, hz0, hz1, hz2⟩ := info_parts info_u8
  have hb0 := (Below.refl w.heap.size w).alloc (Nat.le_refl _) (.cells #[.int .i64 k, .int .i64 i, .string s, .bool b] 47)
  have v0 : Vb (w.alloc (.cells #[.int .i64 k, .int .i64 i, .string s, .bool b] 47)) w.heap.size k i s b := Wd.Bx.new w _ _
  have Cm := Lib.hid fun w => may_any k i s b w
  rw [(mayB_iff k i s b).2 hM] at Cm
  unfold May at hM
  simp only [] at hM
  rcases hM with ⟨rfl, rfl, rfl, rfl⟩ | ⟨rfl, rfl, rfl⟩ | ⟨rfl, rfl, hs, rfl⟩ | ⟨rfl, rfl, rfl⟩
  · rw [show bs ++ Va.put ⟨0, 0, ⟨#[]⟩, false⟩ = bs by simp [Va.put]]
    go_enter Tryz.func94, Tryz.ntmps94
    go_wp2_with fail
    refine (Cm.out _).mono ?_
    rintro e w2 ⟨rfl, hB2⟩
    have hb2 := hb0.trans (hB2.mono hb0.size)
    obtain ⟨⟨u0, u1, u2, u3⟩, -⟩ := four (v0.below (Wd.Bx.lt v0) hB2)
    go_wp2_with fail
    refine (clone_own A n c bs w2 (hS.below hb2) (by omega)).mono ?_
    rintro e w3 ⟨v3, rfl, hO3, hB3⟩
    go_wp2_with fail
    go_ret2
    exact ⟨v3, rfl, Wd.own_down hO3 hb2.size, hb2.trans (hB3.mono hb2.size)⟩
  · rw [show bs ++ Va.put ⟨1, i, ⟨#[]⟩, false⟩ = bs ++ Nm.vd (Nm.zz i) by simp [Va.put]]
    go_enter Tryz.func94, Tryz.ntmps94
    go_wp2_with fail
    refine (Cm.out _).mono ?_
    rintro e w2 ⟨rfl, hB2⟩
    have hb2 := hb0.trans (hB2.mono hb0.size)
    obtain ⟨⟨u0, u1, u2, u3⟩, -⟩ := four (v0.below (Wd.Bx.lt v0) hB2)
    go_wp2_with fail
    refine (put_own A n c bs i w2 (hS.below hb2) (by omega) h0 h1).mono ?_
    rintro e w3 ⟨v3, rfl, hO3, hB3⟩
    go_wp2_with fail
    go_ret2
    exact ⟨v3, rfl, Wd.own_down hO3 hb2.size, hb2.trans (hB3.mono hb2.size)⟩
  · rw [show bs ++ Va.put ⟨2, 0, s, false⟩ = (bs ++ Nm.vd (s.size : Int)) ++ byts s by simp [Va.put]]
    have hvl := Nm.vd_len (s.size : Int)
    have Hn := Lib.hid hS.len
    have Hp := Lib.hid fun w' (hb : Below w.heap.size w w') => putLen_own A n c bs (s.size : Int) w' (hS.below hb) (by omega) (by omega) (by omega)
    have HS := Lib.hid hS
    have hl8 : (bs ++ Nm.vd (s.size : Int)).length ≤ 1000010 := by rw [List.length_append, ← Hn.out]; omega
    obtain ⟨vs, hvs⟩ : ∃ vs, vs = bs ++ Nm.vd (s.size : Int) := ⟨_, rfl⟩
    rw [← hvs] at Hp hl8 ⊢
    clear hS hvs hvl Hn
    go_enter Tryz.func94, Tryz.ntmps94
    go_wp2_with fail
    refine (Cm.out _).mono ?_
    rintro e w2 ⟨rfl, hB2⟩
    have hb2 := hb0.trans (hB2.mono hb0.size)
    have v2 := v0.below (Wd.Bx.lt v0) hB2
    have hl2 := Wd.Bx.lt v2
    obtain ⟨⟨u0, u1, u2, u3⟩, -⟩ := four v2
    have Hv2 := Lib.hid v2
    have Hb2 := Lib.hid hb2
    clear v0 v2 hb0 hB2 Cm hb2
    go_upto_region 7 with fail
    go_region_held3 (fun w' => w'.cell? ⟨w.heap.size, 2, none⟩ = some (.string s)) (first | exact hc4 | exact hc3 | go_keep) (first | (refine step_app_str _ rfl (.tmp 23) (.tmp 25) 32 9 rfl w2.heap.size 5 i0 Tryz.underlying32 Tryz.underlying9 hi hz0 hz1 hz2 v3 vs rfl hO3 s rfl (by unfold maxLen; omega) (by omega) hb3.size ?_; intro v4 w4 hO4 hg4; have hb4 : Below w2.heap.size w2 w4 := hb3.grown hg4 hb3.size fun g hg => (hO3.lt g hg).1; have hc4 := (hb4.cell (p := ⟨w.heap.size, 2, none⟩) hl2).trans u2) | (go_at_call 50; (with_reducible refine (Hp.out _ (Hb2.out.drew)).mono ?_); rintro e w3 ⟨v3, rfl, hO3, hB3⟩; have hb3 : Below w2.heap.size w2 w3 := Wd.of_drew hB3; have hc3 := (hb3.cell (p := ⟨w.heap.size, 2, none⟩) hl2).trans u2))
    go_wp2_with fail
    go_ret2
    exact ⟨v4, rfl, Wd.own_down hO4 Hb2.out.size, Hb2.out.trans (hb4.mono Hb2.out.size)⟩
  · rw [show bs ++ Va.put ⟨3, 0, ⟨#[]⟩, b⟩ = bs ++ [dg b] by simp [Va.put, dg]]
    have Hn := Lib.hid hS.len
    have Hp := Lib.hid fun w' (hb : Below w.heap.size w w') => clone_own A n c bs w' (hS.below hb) (by omega)
    have hl8 : bs.length ≤ 1000000 := by rw [← Hn.out]; omega
    have Cd := Lib.hid fun w => digit_any b w
    obtain ⟨d, hd⟩ : ∃ d, d = dg b := ⟨_, rfl⟩
    rw [← hd] at Cd ⊢
    clear hS Hn hd
    go_enter Tryz.func94, Tryz.ntmps94
    go_wp2_with fail
    refine (Cm.out _).mono ?_
    rintro e w2 ⟨rfl, hB2⟩
    have hb2 := hb0.trans (hB2.mono hb0.size)
    have v2 := v0.below (Wd.Bx.lt v0) hB2
    have hl2 := Wd.Bx.lt v2
    obtain ⟨⟨u0, u1, u2, u3⟩, -⟩ := four v2
    have Hv2 := Lib.hid v2
    have Hb2 := Lib.hid hb2
    clear v0 v2 hb0 hB2 Cm hb2
    go_upto_region 9 with fail
    go_region_held3 (fun w' => w'.cell? ⟨w.heap.size, 3, none⟩ = some (.bool b)) (first | exact hc4 | exact hc3 | go_keep) (first | (refine Wd.step_app _ rfl (.tmp 30) (.tmp 34) 32 rfl w2.heap.size 5 i0 _ .u8 1 Tryz.underlying32 hi hz0 hz1 hz2 rfl v3 bs rfl (Wd.own_below hO3 ((Below.refl _ _).alloc (Nat.le_refl _) (.cells #[.int .u8 d] 5))) (w3.heap.size + 1) (some ⟨w3.heap.size, 0, none⟩) 1 1 [d] (by rfl) rfl (by simp) (Wd.Rd.lit w3 .u8 [d] 5 #[.int .u8 d] rfl) (by simp; omega) (by unfold maxLen; simp; omega) (by simp; omega) ?_; intro v4 w4 hO4 hg4; have hb4 : Below w2.heap.size w2 w4 := (hb3.alloc hb3.size (.cells #[.int .u8 d] 5)).grown hg4 (by simp; omega) fun g hg => (hO3.lt g hg).1; have hc4 := (hb4.cell (p := ⟨w.heap.size, 3, none⟩) hl2).trans u3) | (go_at_call 151; (with_reducible refine (Cd.out _).mono ?_); rintro e w5 ⟨rfl, hw5⟩; have hq5 := hw5.symm; clear hw5; subst hq5) | (go_at_call 96; (with_reducible refine (Hp.out _ (Hb2.out.drew)).mono ?_); rintro e w3 ⟨v3, rfl, hO3, hB3⟩; have hb3 : Below w2.heap.size w2 w3 := Wd.of_drew hB3; have hsz3 := hb3.size; have hc3 := (hb3.cell (p := ⟨w.heap.size, 3, none⟩) hl2).trans u3))
    go_wp2_with fail
    go_ret2
    exact ⟨v4, rfl, Wd.own_down hO4 Hb2.out.size, Hb2.out.trans (hb4.mono Hb2.out.size)⟩
end Vc
namespace Cx
open Va (Vl May ord null)
open Sc (tr tr_yes tr_no tr_iff)
open Co
set_option maxHeartbeats 8000000 in
theorem cput_any (A : Option Addr) (n c : Nat) (B : Option Addr) (m d : Nat) (C : Col) (w : World) (h : Cl w A n c B m d C) (hn : n ≤ 1000) (hm : m ≤ 1000000) :
    Calls Tryz.prog 48 #[.agg #[.int .i64 C.n, .slice A n c, .slice B m d]] w (Wd.Out2 w .u8 (put C).1 (put C).2) := by
  obtain ⟨i0, hi, hz0, hz1, hz2⟩ := info_parts info_y
  have hb0 := (Below.refl w.heap.size w).alloc (Nat.le_refl _) (.cells #[.int .i64 C.n, .slice A n c, .slice B m d] 57)
  have x0 := Cb.new w C.n A n c B m d
  have C1 := Lib.hid (cmay_any A n c B m d C _ (h.below hb0) hn hm)
  have Hb0 := Lib.hid hb0
  have HD := Lib.hid h.dict
  have HI := Lib.hid h.ids
  have Hn := Lib.hid h.dict.len
  have Hm := Lib.hid h.ids.len
  have hcap := h.dict.cap
  have hmx := h.dict.max
  have hcap2 := h.ids.cap
  have hmx2 := h.ids.max
  unfold maxLen at hmx hmx2
  have n1 := h.n1
  by_cases hv : Valid C
  case neg =>
    rw [put_no hv]
    have et := tr_no hv
    rw [et] at C1
    clear h hb0 hv et
    have c0 := x0.c0
    have c1 := x0.c1
    have c2 := x0.c2
    obtain ⟨N, hN⟩ : ∃ N, N = C.n := ⟨_, rfl⟩
    rw [← hN] at C1 Hb0 c0 c1 c2 ⊢
    clear hN x0 n1
    go_enter Tryz.func48, Tryz.ntmps48
    go_wp2_with fail
    refine C1.out.mono ?_
    rintro e w1 ⟨rfl, hB1⟩
    have Hb1 := Lib.hid (Hb0.out.trans (hB1.mono (by simp)))
    clear hB1 c0 c1 c2
    go_wp2_with fail
    go_ret2
    exact ⟨_, _, _, rfl, Wd.Sl.none_ _ _, Hb1.out⟩
  rw [put_yes hv]
  have et := tr_yes hv
  rw [et] at C1
  have n0 := hv.n0
  have HM := Lib.hid hv.ris.1
  obtain ⟨N, hN⟩ : ∃ N, N = C.n := ⟨_, rfl⟩
  have P1 := Lib.hid fun w => Vc.putLen_own none 0 0 [] N w (Wd.Sl.none_ _ _) (by omega) (by rw [hN]; exact n0) (by rw [hN]; exact n1)
  rw [List.nil_append] at P1
  have P2 := Lib.hid fun A5 n5 c5 w (h5 : Wd.Sl w .u8 A5 n5 c5 (Nm.vd N)) => Vc.putLen_own A5 n5 c5 (Nm.vd N) (n : Int) w h5 (by rw [h5.len]; have := (Nm.vd_len N).2; omega) (by omega) (by omega)
  have l1 := (Nm.vd_len N).2
  have l2 := (Nm.vd_len (n : Int)).2
  obtain ⟨T, hT⟩ : ∃ T : Nat → List Int, T = fun k => (Nm.vd N ++ Nm.vd (n : Int)) ++ putD (C.dict.take k) := ⟨_, rfl⟩
  have HT0 := Lib.hid (show T 0 = Nm.vd N ++ Nm.vd (n : Int) by rw [hT]; simp [putD])
  have HT1 := Lib.hid (show ∀ k, k < C.dict.length → T (k + 1) = T k ++ ([(C.dict.getD k default).kind] ++ Va.put (C.dict.getD k default)) from fun k hk => by
    rw [hT]
    show (Nm.vd N ++ Nm.vd (n : Int)) ++ putD (C.dict.take (k + 1)) = _
    rw [putD_next _ _ hk]
    simp)
  have HTn := Lib.hid (show T n ++ C.ids = puts C by
    rw [hT]
    show ((Nm.vd N ++ Nm.vd (n : Int)) ++ putD (C.dict.take n)) ++ C.ids = _
    rw [List.take_of_length_le (by rw [Hn.out]; exact Nat.le_refl _)]
    unfold puts
    rw [hN, Hn.out])
  have HTl := Lib.hid (show ∀ k, (T k).length ≤ 20 + 75 * k from fun k => by
    have h1 := putD_len (D := C.dict.take k) fun v hv' => HM.out v (List.mem_of_mem_take hv')
    have h2 : (C.dict.take k).length ≤ k := by simp; omega
    rw [hT]
    show (Nm.vd N ++ Nm.vd (n : Int) ++ putD (C.dict.take k)).length ≤ _
    simp only [List.length_append]
    omega)
  rw [← HTn.out]
  have hl1 := Lib.hid l1
  have hl2 := Lib.hid l2
  rw [← hN] at x0 C1 Hb0 ⊢
  have c0 := x0.c0
  have c1 := x0.c1
  have c2 := x0.c2
  clear h hb0 hv et hN n0 n1 hT l1 l2
  go_enter Tryz.func48, Tryz.ntmps48
  go_wp2_with fail
  refine C1.out.mono ?_
  rintro e w1 ⟨rfl, hB1⟩
  have y0 := x0.below (by simp) hB1
  have hlt1 := y0.lt
  have Hb1 := Lib.hid (Hb0.out.trans (hB1.mono (by simp)))
  clear hB1 c0 c1 c2 x0 C1
  have c0 := y0.c0
  have c1 := y0.c1
  have c2 := y0.c2
  go_wp2_with fail
  have hb := (Below.refl w1.heap.size w1).drew
  have z10 : w1.drew.cell? ⟨w.heap.size, 0, none⟩ = some (.int .i64 N) ∧ w1.drew.cell? ⟨w.heap.size, 1, none⟩ = some (.slice A n c) := ⟨c0, c1⟩
  go_region_held3 (fun w' => w'.cell? ⟨w.heap.size, 0, none⟩ = some (.int .i64 N) ∧ w'.cell? ⟨w.heap.size, 1, none⟩ = some (.slice A n c)) (with_reducible first | exact z10) (first
    | (go_at_call 50; (with_reducible refine (P1.out _).mono ?_); rintro e w5 ⟨v5, rfl, hO5, hB5⟩; obtain ⟨A5, n5, c5, rfl, hS5⟩ := Wd.Sl.of_own hO5; have hb := hb.trans (hB5.mono hb.size); have y9 := y0.below hlt1 hb; have z10 := And.intro y9.c0 y9.c1)
    | (go_at_call 50; (with_reducible refine (P2.out A5 n5 c5 _ hS5).mono ?_); rintro e w8 ⟨v8, rfl, hO6, hB8⟩; have hO8 := Wd.own_down hO6 hb.size; have hb := hb.trans (hB8.mono hb.size); have y9 := y0.below hlt1 hb; have z10 := And.intro y9.c0 y9.c1))
  have hb8 := hb
  have HB8 := Lib.hid hb8
  have hlt8 := y9.lt
  have y8 := y9
  have hs8 := hb8.size
  rw [← HT0.out] at hO8
  have HO8 := Lib.hid hO8
  have c1' := y9.c1
  clear z10 c0 c1 c2 hO5 hO6 hS5 hB5 hB8 hb hb8 y9 P1 P2 hO8
  go_wp2_with fail
  go_loopw [4, 22] (fun v j wr => ∃ k : Nat, j = .int .i64 k ∧ k ≤ n ∧ wr.ownsRow w1.heap.size 5 1 v (T k).length ((T k).map (Value.int .u8)) ∧ Below w1.heap.size w8 wr) (fun _ j _ => n - (intOf j).toNat)
  case atStart => exact ⟨0, rfl, Nat.zero_le _, HO8.out, Below.refl _ _⟩
  case round =>
    obtain ⟨k, rfl, hk, hO, hB⟩ := hrel
    have yr := y8.below hlt1 hB
    by_cases hkn : k < n
    · have hkI : (k : Int) < n := by omega
      have hk0 : (0 : Int) ≤ (k : Int) := by omega
      have hkD : k < C.dict.length := by rw [← Hn.out]; exact hkn
      have hHD := (HD.out.below (Hb1.out.trans ((HB8.out.trans hB).mono Hb1.out.size)))
      obtain ⟨e, f, hA, heB, d0, d1, d2, d3, hv1⟩ := hHD.cells (j := k) hkD rfl
      subst hA
      have hT := HT1.out k hkD
      have hmay := HM.out (C.dict.getD k default) (by rw [List.getD_eq_getElem?_getD, List.getElem?_eq_getElem hkD]; exact List.getElem_mem hkD)
      obtain ⟨y, hy⟩ : ∃ y, y = C.dict.getD k default := ⟨_, rfl⟩
      rw [← hy] at d0 d1 d2 d3 hv1 hT hmay
      obtain ⟨vk, vi, vs, vb⟩ := y
      have hkd := may_kind hmay
      simp only [] at hkd
      have hwk : IntKind.u8.wrap vk = vk := by
        have : vk = 0 ∨ vk = 1 ∨ vk = 2 ∨ vk = 3 := by omega
        rcases this with rfl | rfl | rfl | rfl <;> rfl
      have hbd := bounds_i64 hv1.w1
      have CP := Lib.hid fun A n c w (hS : Wd.Sl w .u8 A n c [vk]) => Vc.Put_own A n c [vk] vk vi vs vb w hS (by rw [hS.len]; simp) hbd.1 hbd.2 hmay
      have hpl := Va.put_len hmay
      obtain ⟨ds, hds⟩ : ∃ ds, ds = [vk] ++ Va.put ⟨vk, vi, vs, vb⟩ := ⟨_, rfl⟩
      have hdl : ds.length ≤ 75 := by rw [hds]; simp; omega
      rw [← hds] at CP
      replace hT : T (k + 1) = T k ++ ds := by rw [hds]; exact hT
      have HT := Lib.hid hT
      have htl := HTl.out k
      have HO := Lib.hid hO
      have HBr := Lib.hid hB
      have hsr := hB.size
      have hb3 := ((Below.refl wr.heap.size wr).alloc (Nat.le_refl _) (.cells #[.int .i64 vk, .int .i64 vi, .string vs, .bool vb] 47))
      have hlit := Wd.Sl.lit (wr.alloc (.cells #[.int .i64 vk, .int .i64 vi, .string vs, .bool vb] 47)) .u8 [vk] 5 #[.int .u8 vk] 1 rfl rfl (by decide)
      rw [World.size_alloc] at hlit
      have Hlit := Lib.hid hlit
      have hb4 : Below wr.heap.size wr ((wr.alloc (.cells #[.int .i64 vk, .int .i64 vi, .string vs, .bool vb] 47)).alloc (.cells #[.int .u8 vk] 5)) := hb3.alloc hb3.size _
      have Hb4 := Lib.hid hb4
      clear hT hmay hy hv1 hbd hds hO hB hHD hkD hpl hlit hb3 hb4
      go_wp2_with fail
      refine (CP.out _ _ _ _ Hlit.out).mono ?_
      rintro e3 w3 ⟨v3, rfl, hO3, hB3⟩
      have hb5 := Hb4.out.trans (hB3.mono Hb4.out.size)
      have hO4 := Wd.own_below HO.out hb5
      obtain ⟨A3, n3, c3, rfl, hS3⟩ := Wd.Sl.of_own hO3
      have hA5 : Below w1.heap.size w8 w3 := HBr.out.trans (hb5.mono (Nat.le_trans hs8 hsr))
      have hz5 := Nat.le_trans hs8 hA5.size
      clear d0 d1 d2 d3 hB3 hO3 CP hb5
      go_wp2_with (at_builtin; refine Wd.wpList_app _ rfl (.tmp 38) (.tmp 39) 32 rfl w1.heap.size 5 i0 _ .u8 1 Tryz.underlying32 hi hz0 hz1 hz2 rfl _ (T k) rfl hO4 _ A3 n3 c3 ds rfl hS3.len hS3.nil hS3.rd (by omega) (by unfold maxLen; omega) hz5 ?_; intro v6 w6 hO6 hg6; have hb6 : Below w1.heap.size w8 w6 := hA5.grown hg6 hz5 fun g hg => (hO4.lt g hg).1)
      go_roundw
      case rel => exact ⟨k + 1, by go_num, by omega, by rw [HT.out]; exact hO6, hb6⟩
      case measure => simp [intOf]; omega
    · have hkI : ¬ (k : Int) < n := by omega
      obtain rfl : k = n := by omega
      have hI := HI.out.below (Hb1.out.trans ((HB8.out.trans hB).mono Hb1.out.size))
      have htl := HTl.out k
      have Hil := Lib.hid hI.len
      have hic := hI.cap
      have hnl := hI.nil
      have hrd := hI.rd
      clear hI
      have hsr := hB.size
      have hbr := Hb1.out.trans ((HB8.out.trans hB).mono Hb1.out.size)
      have hs1 := Hb1.out.size
      have hsw : w1.heap.size ≤ wr.heap.size := Nat.le_trans hs8 hsr
      have c1 := yr.c1
      have c2 := yr.c2
      go_wp2_with (at_builtin; refine Wd.wpList_app _ rfl (.tmp 42) (.tmp 44) 32 rfl w1.heap.size 5 i0 _ .u8 1 Tryz.underlying32 hi hz0 hz1 hz2 rfl _ (T k) rfl hO _ B m d C.ids rfl Hil.out hnl hrd (by have := Hil.out; omega) (by unfold maxLen; have := Hil.out; omega) hsw ?_; intro v6 w6 hO6 hg6; have hb6 : Below w.heap.size w w6 := hbr.grown hg6 hbr.size fun g hg => Nat.le_trans hs1 (hO.lt g hg).1)
      go_ret2
      obtain ⟨A7, n7, c7, rfl, hS7⟩ := Wd.Sl.of_own hO6
      exact ⟨A7, n7, c7, rfl, hS7, hb6⟩
end Cx
end Go.Proofs.YtaoeipehpakngaaGreatDoor
