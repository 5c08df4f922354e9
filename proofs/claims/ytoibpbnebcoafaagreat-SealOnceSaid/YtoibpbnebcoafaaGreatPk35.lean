/- What bits.Pack does, for whatever numbers and width. Package column: Build. -/
import Derived.Test.YtoibpbnebcoafaaGreatPk25
import Derived.Test.YtoibpbnebcoafaaGreatPk34
namespace Go.Proofs.YtoibpbnebcoafaaGreat
set_option maxRecDepth 20000
open Go.RowKit
namespace Bc

set_option maxHeartbeats 800000 in
theorem pack_ok (A : Option Addr) (m c wd : Nat) (l : List Int) (w : World) (hS : Wd.Sl w .i64 A m c l) (hB : Bt.InR wd l) (hm : m ≤ 4096) (hwd : wd ≤ 62) :
    Calls Tryz.prog 89 #[.slice A m c, .int .i64 wd] w (Wd.Out2 w .u8 (Bt.toD 8 ((m * wd + 7) / 8) (Bt.ofD wd l)) 0) := by
  obtain ⟨i0, hi, hz0, hz1, hz2⟩ := info_parts info_u8
  have hmf : ∀ (fn : Fn) (first cap : Array Value) (w : World), (Instr.makeFunc fn first cap).run Tryz.prog w = .ok (.func fn first cap) w := fun _ _ _ _ => rfl
  obtain ⟨p1, p2⟩ := prod_le m wd hm hwd
  obtain ⟨p3, p4⟩ := pow62 wd hwd
  have E2 := Lib.hid (mul_cast m wd)
  have f1 : (m * wd + 7) / 8 ≤ 31745 := by have := mul_cast m wd; omega
  have f2 : wd * m ≤ 8 * ((m * wd + 7) / 8) := by rw [Nat.mul_comm wd m]; omega
  have hl := hS.len
  have Hl := Lib.hid hl
  have HB := Lib.hid hB
  have hcap := hS.cap
  clear hl hB
  generalize hN : (m * wd + 7) / 8 = N at *
  have HN := Lib.hid hN
  clear hN
  go_enter Tryz.func89, Tryz.ntmps89
  go_wp2_with fail
  refine (isWidth_yes _ _ (by omega) (by omega)).mono ?_
  rintro e w' ⟨rfl, rfl⟩
  go_wp2_with fail
  go_loop [18] (fun i => ∃ k : Nat, i = .int .i64 k ∧ k ≤ m) (fun i => m - (intOf i).toNat)
  case atStart => exact ⟨0, rfl, Nat.zero_le _⟩
  case round =>
    obtain ⟨k, rfl, hk⟩ := hrel
    by_cases hlt : k < m
    · obtain ⟨b, o, rfl, hbB, hcell⟩ := hS.rd k (by rw [← Hl.out]; exact hlt)
      obtain ⟨x, hx⟩ : ∃ x, x = l.getD k 0 := ⟨_, rfl⟩
      have hx2 : 0 ≤ x ∧ x < 2 ^ wd := HB.out x (by rw [hx]; simp [List.getD, show k < l.length by rw [← Hl.out]; exact hlt])
      obtain ⟨hx0, hx1⟩ := hx2
      rw [← hx] at hcell
      clear hx
      go_wp2_with fail
      go_round
      case rel => exact ⟨k + 1, by go_num, by omega⟩
      case measure => simp [intOf]; omega
    · go_wp2_with fail
      refine (bytesFor_any m wd _ hm hwd).mono ?_
      rintro e w' ⟨rfl, rfl⟩
      rw [HN.out]
      go_wp2_with (at_make; refine wpList_make_full _ rfl (.tmp 34) (.tmp 34) 68 rfl w.heap.size 5 i0 _ 1 Tryz.underlying68 hi hz0 hz1 .i64 .i64 N N N rfl rfl rfl rfl (by rw [hz2]; omega) (by unfold maxLen; omega) (Nat.le_refl _) ?_; intro w3 hown hgrow)
      have hb3 := (Below.refl w.heap.size w).grown hgrow (Nat.le_refl _) (by simp)
      rw [Wd.made_zero] at hown
      have hR := (Wd.Row.of_own hown).1
      have hg3 := hR.lt
      have Hr0 := Lib.hid (hS.rd)
      clear hown hgrow
      refine (passNumbers_any _ _ A m c w.heap.size wd l (PackI w w.heap.size w.heap.size w3.heap.size (w3.heap.size + 1) N (Bt.ofD wd l)) _ Hl.out hm hcap hwd HB.out goes_pack (fun k w' hI => Hr0.out.below hI.2.2.2)
        (pack_takes w w.heap.size w.heap.size w3.heap.size (w3.heap.size + 1) N _ _ _ (fun k hk => getD_bit HB.out k (by rw [← Hl.out]; exact hk)) (by omega) f2 (Nat.le_refl _) (by omega) (by omega) (by omega) (by omega)) ?_).mono ?_
      · refine ⟨?_, ?_, ?_, ?_⟩
        · rw [toD_zero]
          exact (hR.alloc _).alloc _
        · exact (Wd.Var.new _ _ _).alloc _
        · have := Wd.Var.new (w3.alloc (.cells #[.slice (some ⟨w.heap.size, 0, none⟩) N N] 68)) 3 (.int .i64 0)
          simpa using this
        · exact (hb3.alloc (by omega) _).alloc (by simp; omega) _
      rintro e w4 ⟨rfl, hI⟩
      have c9 := hI.2.1.cell
      have hBl := hI.2.2.2
      have hR4 := hI.1
      rw [Int.emod_eq_of_lt (Bt.ofD_lo HB.out) (by rw [Hl.out]; exact Bt.ofD_hi HB.out)] at hR4
      clear hI hR hb3 hg3
      go_wp2_with fail
      go_ret2
      exact ⟨_, N, N, rfl, hR4.sl N (by rw [Bt.toD_len]) (by unfold maxLen; omega), hBl⟩

theorem pack_arg (A : Option Addr) (m c : Nat) (wd : Int) (w : World) (h : wd < 0 ∨ 62 < wd) :
    Calls Tryz.prog 89 #[.slice A m c, .int .i64 wd] w (Wd.Out2 w .u8 [] 1) := by
  have Hw := Lib.hid h
  clear h
  go_enter Tryz.func89, Tryz.ntmps89
  go_wp2_with fail
  refine (isWidth_no _ _ Hw.out).mono ?_
  rintro e w' ⟨rfl, rfl⟩
  go_wp2_with fail
  go_ret2
  exact Wd.Out2.err _ _ _ _ (Below.refl _ _)
theorem pack_long (A : Option Addr) (m c : Nat) (wd : Int) (w : World) (h1 : 0 ≤ wd) (h2 : wd ≤ 62) (h3 : 4096 < m) (h4 : m ≤ 9223372036854775807) :
    Calls Tryz.prog 89 #[.slice A m c, .int .i64 wd] w (Wd.Out2 w .u8 [] 2) := by
  go_enter Tryz.func89, Tryz.ntmps89
  go_wp2_with fail
  refine (isWidth_yes _ _ h1 h2).mono ?_
  rintro e w' ⟨rfl, rfl⟩
  go_wp2_with fail
  go_ret2
  exact Wd.Out2.err _ _ _ _ (Below.refl _ _)
set_option maxHeartbeats 800000 in
theorem pack_bad (A : Option Addr) (m c wd : Nat) (l : List Int) (w : World) (hS : Wd.Sl w .i64 A m c l) (hm : m ≤ 4096) (hwd : wd ≤ 62) (j : Nat) (hj : j < m) (hbad : ¬ (0 ≤ l.getD j 0 ∧ l.getD j 0 < 2 ^ wd)) :
    Calls Tryz.prog 89 #[.slice A m c, .int .i64 wd] w (Wd.Out2 w .u8 [] 1) := by
  obtain ⟨p3, p4⟩ := pow62 wd hwd
  have hl := hS.len
  have Hl := Lib.hid hl
  have hcap := hS.cap
  have Hbad := Lib.hid hbad
  clear hl hbad
  go_enter Tryz.func89, Tryz.ntmps89
  go_wp2_with fail
  refine (isWidth_yes _ _ (by omega) (by omega)).mono ?_
  rintro e w' ⟨rfl, rfl⟩
  go_wp2_with fail
  go_loop [18] (fun i => ∃ k : Nat, i = .int .i64 k ∧ k ≤ j) (fun i => m - (intOf i).toNat)
  case atStart => exact ⟨0, rfl, Nat.zero_le _⟩
  case round =>
    obtain ⟨k, rfl, hk⟩ := hrel
    have hlt : k < m := by omega
    obtain ⟨b, o, rfl, hbB, hcell⟩ := hS.rd k (by rw [← Hl.out]; exact hlt)
    obtain ⟨x, hx⟩ : ∃ x, x = l.getD k 0 := ⟨_, rfl⟩
    rw [← hx] at hcell
    have Hx := Lib.hid hx
    clear hx
    rcases (show x < 0 ∨ (0 ≤ x ∧ x < 2 ^ wd) ∨ (0 ≤ x ∧ 2 ^ wd ≤ x) by omega) with q | ⟨q, q2⟩ | ⟨q, q2⟩
    · go_wp2_with fail
      go_ret2
      exact Wd.Out2.err _ _ _ _ (Below.refl _ _)
    · have hkj : k ≠ j := by
        intro e
        rw [← e, ← Hx.out] at Hbad
        exact Hbad.out ⟨q, q2⟩
      have hkj2 : k < j := by omega
      clear hkj
      go_wp2_with fail
      go_round
      case rel => exact ⟨k + 1, by go_num, by omega⟩
      case measure => simp [intOf]; omega
    · go_wp2_with fail
      go_ret2
      exact Wd.Out2.err _ _ _ _ (Below.refl _ _)

theorem pack_any (A : Option Addr) (m c : Nat) (wd : Int) (l : List Int) (w : World) (hS : Wd.Sl w .i64 A m c l) :
    Calls Tryz.prog 89 #[.slice A m c, .int .i64 wd] w (Wd.Out2 w .u8 (packL l wd) (packE l wd)) := by
  have hl := hS.len
  have hcap := hS.cap
  have hmax := hS.max
  unfold maxLen at hmax
  by_cases h1 : wd < 0 ∨ 62 < wd
  · have e : packE l wd = 1 := if_pos h1
    rw [packL, e, if_neg (by omega)]
    exact pack_arg A m c wd w h1
  · by_cases h2 : 4096 < l.length
    · have e : packE l wd = 2 := by unfold packE; rw [if_neg h1, if_pos h2]
      rw [packL, e, if_neg (by omega)]
      exact pack_long A m c wd w (by omega) (by omega) (by omega) (by omega)
    · obtain ⟨W, rfl⟩ := Int.eq_ofNat_of_zero_le (show 0 ≤ wd by omega)
      by_cases h3 : Bt.InR W l
      · have e : packE l W = 0 := by unfold packE; rw [if_neg h1, if_neg h2]; exact if_pos ((inB_iff W l).2 h3)
        rw [packL, e, if_pos rfl, ← hl]
        exact pack_ok A m c W l w hS h3 (by omega) (by omega)
      · have e : packE l W = 1 := by unfold packE; rw [if_neg h1, if_neg h2]; exact if_neg (fun q => h3 ((inB_iff W l).1 q))
        rw [packL, e, if_neg (by omega)]
        have : ∃ j, j < l.length ∧ ¬ (0 ≤ l.getD j 0 ∧ l.getD j 0 < 2 ^ W) := by
          refine Classical.byContradiction fun hno => h3 fun x hx => ?_
          obtain ⟨j, hj, rfl⟩ := List.getElem_of_mem hx
          refine Classical.byContradiction fun hb => hno ⟨j, hj, ?_⟩
          simpa [List.getD, hj] using hb
        obtain ⟨j, hj, hb⟩ := this
        exact pack_bad A m c W l w hS (by omega) (by omega) j (by omega) hb
end Bc
end Go.Proofs.YtoibpbnebcoafaaGreat
namespace Go.Proofs.YtoibpbnebcoafaaGreat
set_option maxRecDepth 20000
open Go.RowKit
namespace Cx
open Va (Vl May ord null)
open Sc (tr tr_yes tr_no tr_iff)
open Co Dc
/-- The same as OutC, and the row of its dictionary is new. -/
def OutCn (w : World) (r : Col × Int) (e : Ending) (w' : World) : Prop :=
  ∃ A n c B m d, e = .returned (.tuple #[.agg #[.int .i64 r.1.n, .slice A n c, .slice B m d], .int .i64 r.2]) ∧ Cl w' A n c B m d r.1 ∧ Below w.heap.size w w' ∧ ∀ a, A = some a → w.heap.size ≤ a.block
set_option maxHeartbeats 8000000 in
theorem cbuild_new (A : Option Addr) (n c : Nat) (l : List Vl) (w : World) (hV : Wd.Vs w A n c l) (hs : ∀ x ∈ l, x.s.size ≤ maxLen) :
    Calls Tryz.prog 63 #[.slice A n c] w (OutCn w (build l)) := by
  have hb0 := (Below.refl w.heap.size w).alloc (Nat.le_refl _) (.cells #[.int .i64 0, .slice none 0 0, .slice none 0 0] 70)
  have x0 := Cb.new w 0 none 0 0 none 0 0
  have Hn := Lib.hid hV.len
  have hcap := hV.cap
  have hmx := hV.max
  unfold maxLen at hmx
  have Hb0 := Lib.hid hb0
  have hbx := x0.bx
  by_cases hlong : 4096 < n
  · rw [build_long (by rw [← Hn.out]; exact hlong)]
    have q1 : (4096 : Int) < (n : Int) := by omega
    have Hx := Lib.hid (box3 (x := .int .i64 0) (y := .slice none 0 0) (z := .slice none 0 0) hbx)
    have c0 := x0.c0
    have c1 := x0.c1
    have c2 := x0.c2
    have f0 := hbx.free 0
    have f1 := hbx.free 1
    have f2 := hbx.free 2
    clear hV hb0 hlong hbx x0
    go_enter Tryz.func63, Tryz.ntmps63
    go_wp2_with fail
    refine bodyPost_ret (v := .tuple #[.agg #[.int .i64 0, .slice none 0 0, .slice none 0 0], .int .i64 2]) ?_ rfl ⟨none, 0, 0, none, 0, 0, rfl, Cl.none_ _, Hb0.out, fun a ha => by cases ha⟩
    rw [res_cell2 rfl]; go_simp
  have q1 : ¬ (4096 : Int) < (n : Int) := by omega
  have hn1 : n ≤ 4096 := by omega
  have C1 := Lib.hid (number_any A n c l _ (hV.below hb0) hs hn1)
  have Hs := Lib.hid hs
  have Hll := Lib.hid (show l.length ≤ 4096 by rw [← Hn.out]; exact hn1)
  clear hV hb0 hs hbx
  obtain ⟨R, hR⟩ : ∃ R, R = build l := ⟨_, rfl⟩
  rw [← hR]
  have HR := Lib.hid hR
  clear hR
  obtain ⟨wa, hwa⟩ : ∃ wa, wa = w.alloc (.cells #[.int .i64 0, .slice none 0 0, .slice none 0 0] 70) := ⟨_, rfl⟩
  have hsz : wa.heap.size = w.heap.size + 1 := by rw [hwa]; simp
  rw [← hwa] at x0 Hb0 C1
  have Hwa := Lib.hid hwa
  clear hwa
  go_enter Tryz.func63, Tryz.ntmps63
  go_wp2_with fail
  rw [← Hwa.out]
  by_cases hm : ∀ v ∈ l, May v
  case neg =>
    rw [nrs_no hm] at C1
    have HRb := Lib.hid (HR.out.trans (build_bad Hll.out hm))
    go_wp2_with fail
    refine C1.out.mono ?_
    rintro e w1 ⟨A1, n1, c1, B1, m1, d1, rfl, -, -, hB1, -⟩
    have y1 := x0.below x0.lt hB1
    have z0 := y1.c0
    have z1 := y1.c1
    have z2 := y1.c2
    have f0 := y1.bx.free 0
    have f1 := y1.bx.free 1
    have f2 := y1.bx.free 2
    have Hb1 := Lib.hid (Hb0.out.trans (hB1.mono Hb0.out.size))
    have Hx1 := Lib.hid (box3 (x := .int .i64 0) (y := .slice none 0 0) (z := .slice none 0 0) y1.bx)
    clear hB1 y1
    go_wp2_with fail
    have g0 := Hx1.out.cell 0
    have g1 := Hx1.out.cell 1
    have g2 := Hx1.out.cell 2
    refine bodyPost_ret (v := .tuple #[.agg #[.int .i64 0, .slice none 0 0, .slice none 0 0], .int .i64 1]) ?_ rfl (by rw [HRb.out]; exact ⟨none, 0, 0, none, 0, 0, rfl, Cl.none_ _, ((Hb1.out.setCell (Nat.le_refl _) _).setCell (Nat.le_refl _) _).setCell (Nat.le_refl _) _, fun a ha => by cases ha⟩)
    rw [res_cell2 rfl]; go_simp
  rw [nrs_yes hm] at C1
  have Hall := Lib.hid hm
  clear hm
  have Hd5 := Lib.hid (show (dct l).length ≤ 4096 by have := dct_len (l := l); have := Hll.out; omega)
  go_wp2_with fail
  refine C1.out.mono ?_
  rintro e w5 ⟨A5, n5, c5, A7, n7, c7, rfl, hS5, hS7, hB5, hnA⟩
  have HnA := Lib.hid (fun a (ha : A5 = some a) => (by have := hnA a ha; rw [hsz] at this; omega : w.heap.size ≤ a.block))
  clear hnA
  have hb5 := Hb0.out.trans (hB5.mono Hb0.out.size)
  have h5l := hS5.len
  have hn5 : n5 ≤ 4096 := by rw [h5l]; exact Hd5.out
  have h5c := hS5.cap
  have h5m := hS5.max
  unfold maxLen at h5m
  have y5 := x0.below x0.lt hB5
  have hlt5 := y5.lt
  have Cw := Lib.hid (cwidth_any n5 (by omega) w5)
  have e3 : Bc.wid ((n5 : Int) - 1) = wdt (dct l) := by rw [h5l]; rfl
  rw [e3] at Cw
  have hpe0 : Bc.packE (ids l) (wdt (dct l)) = 0 := Bc.packE_ok (wdt_le Hll.out) (by rw [ids_len]; exact Hll.out) (ids_in Hll.out Hall.out)
  have Cp := Lib.hid (Bc.pack_any A7 n7 c7 (wdt (dct l)) (ids l) w5 hS7)
  rw [hpe0] at Cp
  obtain ⟨W, hW⟩ : ∃ W, W = wdt (dct l) := ⟨_, rfl⟩
  obtain ⟨pl, hpl⟩ : ∃ pl, pl = Bc.packL (ids l) (wdt (dct l)) := ⟨_, rfl⟩
  rw [← hpl] at Cp
  rw [← hW] at Cw Cp
  have Hpl := Lib.hid hpl
  have Hb5 := Lib.hid hb5
  have HS5 := Lib.hid hS5
  have H5l := Lib.hid h5l
  clear hS7 e3 hW hpl hb5 hB5 hpe0 hS5 h5l C1
  go_wp2_with (first
    | (go_at_call 90; refine Cw.out.mono ?_; rintro e8 w8 ⟨rfl, hq⟩; have hq' := hq.symm; clear hq; subst hq')
    | (go_at_call 89; refine Cp.out.mono ?_; rintro e8 w8 ⟨A8, n8, c8, rfl, hS8, hB8⟩; have y8 := y5.below hlt5 hB8; have z0 := y8.c0; have z1 := y8.c1; have z2 := y8.c2; have f0 := y8.bx.free 0; have f1 := y8.bx.free 1; have f2 := y8.bx.free 2))
  have Hx8 := Lib.hid (box3 (x := .int .i64 (n : Int)) (y := .slice A5 n5 c5) (z := .slice A8 n8 c8) y8.bx)
  have g0 := Hx8.out.cell 0
  have g1 := Hx8.out.cell 1
  have g2 := Hx8.out.cell 2
  have hb8 := Hb5.out.trans (hB8.mono Hb5.out.size)
  have hV8 := HS5.out.below hB8
  have hnv := vs_ne y8 hV8
  have hns := sl_ne y8 hS8
  refine bodyPost_ret (v := .tuple #[.agg #[.int .i64 (n : Int), .slice A5 n5 c5, .slice A8 n8 c8], .int .i64 0]) ?_ rfl ⟨A5, n5, c5, A8, n8, c8, ?_, ⟨?_, ?_, ?_, ?_, ?_, ?_⟩, ((hb8.setCell (Nat.le_refl _) _).setCell (Nat.le_refl _) _).setCell (Nat.le_refl _) _, HnA.out⟩
  · rw [res_cell2 rfl]; go_simp
  · rw [HR.out, build_ok Hll.out Hall.out, ← Hn.out]
  · rw [HR.out, build_ok Hll.out Hall.out]
    exact vs_store (vs_store (vs_store hV8 hnv _ _) hnv _ _) hnv _ _
  · rw [HR.out, build_ok Hll.out Hall.out, ← Hpl.out]
    exact sl_store (sl_store (sl_store hS8 hns _ _) hns _ _) hns _ _
  · rw [HR.out, build_ok Hll.out Hall.out]
    exact Bc.packL_byt _ _
  · rw [HR.out, build_ok Hll.out Hall.out]
    show -9223372036854775808 ≤ (l.length : Int)
    omega
  · rw [HR.out, build_ok Hll.out Hall.out]
    have := Hll.out
    show (l.length : Int) ≤ 9223372036854775807
    omega
  · rw [HR.out, build_ok Hll.out Hall.out]
    intro x hx
    exact Hs.out x ((dct_mem Hll.out Hall.out x).1 hx)
theorem cbuild_any (A : Option Addr) (n c : Nat) (l : List Vl) (w : World) (hV : Wd.Vs w A n c l) (hs : ∀ x ∈ l, x.s.size ≤ maxLen) :
    Calls Tryz.prog 63 #[.slice A n c] w (OutC w (build l)) :=
  (cbuild_new A n c l w hV hs).mono fun _ _ ⟨A', n', c', B', m', d', h1, h2, h3, _⟩ => ⟨A', n', c', B', m', d', h1, h2, h3⟩
end Cx
end Go.Proofs.YtoibpbnebcoafaaGreat
