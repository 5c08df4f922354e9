/- Package seal: Build of no rows, from what is below it. Package file: Decode. -/
import Derived.Test.YtaoeipehpakngaaGreatDoorPb38
import Derived.Test.YtaoeipehpakngaaGreatDoorPb23
import Derived.Test.YtaoeipehpakngaaGreatDoorPb35
namespace Go.Proofs.YtaoeipehpakngaaGreatDoor
set_option maxRecDepth 20000
open Go.RowKit Go.Shelf
namespace Fi
open Wd (Cr)
open Sc (Sch MayS tr tr_yes)
open Sx (five)
theorem new0 (w : World) : Calls Tryz.prog 238 #[.int .i64 4096] w fun e w' => e = .returned (.pointer (some ⟨w.heap.size + 1, 0, none⟩)) ∧ w' = (w.alloc (.map #[] 0)).alloc (.cells #[.int .i64 4096, .map (some w.heap.size), .slice none 0 0] 274) := by
  have hmm := @run_makeMap Tryz.prog
  go_enter Tryz.func238, Tryz.ntmps238
  go_wp2_with fail
  go_ret
  exact ⟨rfl, rfl⟩
theorem clone0 (w : World) : Calls Tryz.prog 256 #[.slice none 0 0] w fun e w' => e = .returned (.slice none 0 0) ∧ w' = w := by
  have hnil : ∀ (w : World) (n c : Nat), (binOp .eql 48 (.slice none n c) (.slice none 0 0)).run Tryz.prog w = .ok (.bool true) w := fun _ _ _ => by kernel_rfl
  go_enter Tryz.func256, Tryz.ntmps256
  go_wp2
  go_ret
  exact ⟨rfl, rfl⟩
theorem make0 : ∃ zc : Array Value, ∀ X : World, (Instr.makeSlice 25 (.int .i64 0) (.int .i64 0)).run Tryz.prog X = .ok (.slice (some ⟨X.heap.size, 0, none⟩) 0 0) (X.alloc (.cells zc 3)) := by
  obtain ⟨i0, hi, hz0, hz1, hz2⟩ := info_parts Dx.info_i
  exact ⟨_, fun X => run_make (P := Tryz.prog) X 25 3 i0 _ Tryz.underlying25 hi hz0 .i64 .i64 0 0 (by omega) (by omega) (by rw [hz2]; omega) (by omega)⟩
theorem ins0 (p : Option Addr) (c : Nat) (fv : Value) (w : World) :
    Calls Tryz.prog 236 #[.slice p 0 c, .int .i64 0, .int .i64 0, fv] w fun e w' => e = .returned (.tuple #[]) ∧ w' = w := by
  go_enter Tryz.func236, Tryz.ntmps236
  go_wp2
  refine wp_loop_rounds 1 ?_
  rw [rounds_succ]
  go_wp2
  go_end0
  exact ⟨rfl, rfl⟩
theorem stable0 (p : Option Addr) (c : Nat) (fv : Value) (w : World) :
    Calls Tryz.prog 200 #[.slice p 0 c, .int .i64 0, fv] w fun e w' => e = .returned (.tuple #[]) ∧ w' = w := by
  have hi := Lib.hid fun W => ins0 p c fv W
  go_enter Tryz.func200, Tryz.ntmps200
  go_wp2
  refine wp_loop_rounds 1 ?_
  rw [rounds_succ]
  go_wp2_with (go_at_call 236; refine (hi.out _).mono ?_; rintro e w' ⟨rfl, rfl⟩)
  refine wp_loop_rounds 1 ?_
  rw [rounds_succ]
  go_wp2
  go_end0
  exact ⟨rfl, rfl⟩
theorem sort0 (p : Option Addr) (c : Nat) (fv : Value) (w : World) :
    Calls Tryz.prog 155 #[.slice p 0 c, fv] w fun e w' => e = .returned (.tuple #[]) ∧ w' = w := by
  have hi := Lib.hid fun W => stable0 p c fv W
  go_enter Tryz.func155, Tryz.ntmps155
  go_wp2_with (go_at_call 200; refine (hi.out _).mono ?_; rintro e w' ⟨rfl, rfl⟩)
  go_end0
  exact ⟨rfl, rfl⟩
theorem sorted0 (d : Nat) (x y : Value) (w : World) (h : Wd.Bx w d 274 #[x, y, .slice none 0 0]) :
    Calls Tryz.prog 240 #[.pointer (some ⟨d, 0, none⟩)] w fun e w' => ∃ B, e = .returned (.tuple #[.slice none 0 0, .slice B 0 0]) ∧ Below w.heap.size w w' := by
  obtain ⟨zc, hmk⟩ := make0
  have c2 := h.cell 2
  simp at c2
  have c3 : (w.alloc (.cells zc 3)).cell? ⟨d, 2, none⟩ = some (.slice none 0 0) := by
    have := (h.alloc (.cells zc 3)).cell 2
    simpa using this
  have Cc := Lib.hid fun W => clone0 W
  have Cs := Lib.hid fun fv W => Ds.sort_none none 0 fv W
  clear h
  go_enter Tryz.func240, Tryz.ntmps240
  go_wp2_with (first | (go_at_call 256; refine (Cc.out _).mono ?_; rintro e w' ⟨rfl, rfl⟩) | (go_at_call 257; refine (Cs.out _ _).mono ?_; rintro e w' ⟨rfl, rfl⟩))
  refine wp_loop_rounds 1 ?_
  rw [rounds_succ]
  go_wp2_with fail
  go_ret2
  exact ⟨_, rfl, (Below.refl _ _).alloc (Nat.le_refl _) _⟩
theorem number0 (A : Option Addr) (c : Nat) (w : World) :
    Calls Tryz.prog 201 #[.slice A 0 c] w fun e w' => ∃ B, e = .returned (.tuple #[.slice none 0 0, .slice B 0 0, .int .i64 0]) ∧ Below w.heap.size w w' := by
  obtain ⟨zc, hmk⟩ := make0
  have Cn := Lib.hid fun W => new0 W
  go_enter Tryz.func201, Tryz.ntmps201
  go_upto_region 1 with fail
  go_cut [5, 6] (fun u v wx => ∃ d B y, u = .pointer (some ⟨d, 0, none⟩) ∧ v = .slice B 0 0 ∧ Hid (Wd.Bx wx d 274 #[.int .i64 4096, y, .slice none 0 0] ∧ Below w.heap.size w wx))
  case first =>
    go_region_with (go_at_call 238; refine (Cn.out _).mono ?_; rintro e w5 ⟨rfl, rfl⟩)
    all_goals (
      go_wp2_with fail
      go_meet)
    · have h := Wd.Bx.new (w.alloc (.map #[] 0)) 274 #[.int .i64 4096, .map (some w.heap.size), .slice none 0 0]
      rw [World.size_alloc] at h
      exact ⟨_, _, _, rfl, rfl, Lib.hid ⟨(h.alloc _).drew, ((((Below.refl _ _).alloc (Nat.le_refl _) _).alloc (by simp) _).alloc (by simp; omega) _).drew⟩⟩
    · have h := Wd.Bx.new ((w.alloc (.cells zc 3)).alloc (.map #[] 0)) 274 #[.int .i64 4096, .map (some (w.heap.size + 1)), .slice none 0 0]
      rw [World.size_alloc, World.size_alloc] at h
      exact ⟨_, _, _, rfl, rfl, Lib.hid ⟨h.drew, ((((Below.refl _ _).alloc (Nat.le_refl _) _).alloc (by simp) _).alloc (by simp; omega) _).drew⟩⟩
  case rest =>
    obtain ⟨d, B, y, rfl, rfl, hI⟩ := hcut
    clear Cn hmk zc
    go_wp2_with fail
    refine wp_loop_rounds 1 ?_
    rw [rounds_succ]
    have Cs := Lib.hid (sorted0 d _ _ wc hI.out.1)
    go_wp2_with fail
    refine Cs.out.mono ?_
    rintro e w2 ⟨B2, rfl, hB2⟩
    go_wp2_with fail
    refine wp_loop_rounds 1 ?_
    rw [rounds_succ]
    go_wp2_with fail
    go_ret3
    exact ⟨_, rfl, hI.out.2.trans (hB2.mono hI.out.2.size)⟩
theorem pass0 (A : Option Addr) (c : Nat) (fv : Value) (w : World) :
    Calls Tryz.prog 241 #[.slice A 0 c, .int .i64 0, fv] w fun e w' => e = .returned (.tuple #[]) ∧ w' = w := by
  go_enter Tryz.func241, Tryz.ntmps241
  go_wp2
  refine wp_loop_rounds 1 ?_
  rw [rounds_succ]
  go_wp2
  go_end0
  exact ⟨rfl, rfl⟩
theorem makeB : ∃ zc : Array Value, ∀ X : World, (Instr.makeSlice 32 (.int .i64 0) (.int .i64 0)).run Tryz.prog X = .ok (.slice (some ⟨X.heap.size, 0, none⟩) 0 0) (X.alloc (.cells zc 5)) := by
  obtain ⟨i0, hi, hz0, hz1, hz2⟩ := info_parts Bc.info_u8
  exact ⟨_, fun X => run_make (P := Tryz.prog) X 32 5 i0 _ Tryz.underlying32 hi hz0 .i64 .i64 0 0 (by omega) (by omega) (by rw [hz2]; omega) (by omega)⟩
theorem pack0 (A : Option Addr) (c : Nat) (w : World) :
    Calls Tryz.prog 202 #[.slice A 0 c, .int .i64 0] w fun e w' => ∃ B, e = .returned (.tuple #[.slice B 0 0, .int .i64 0]) ∧ Below w.heap.size w w' := by
  obtain ⟨zc, hmk⟩ := makeB
  have hmf : ∀ (fn : Fn) (first cap : Array Value) (w : World), (Instr.makeFunc fn first cap).run Tryz.prog w = .ok (.func fn first cap) w := fun _ _ _ _ => rfl
  have C1 := Lib.hid fun W => Bc.isWidth_yes 0 W (by omega) (by omega)
  have C2 := Lib.hid fun W => Bc.bytesFor_any 0 0 W (by omega) (by omega)
  have C3 := Lib.hid fun fv W => pass0 A c fv W
  go_enter Tryz.func202, Tryz.ntmps202
  go_wp2_with fail
  refine (C1.out _).mono ?_
  rintro e w' ⟨rfl, rfl⟩
  go_wp2_with fail
  refine wp_loop_rounds 1 ?_
  rw [rounds_succ]
  go_wp2_with fail
  refine (C2.out _).mono ?_
  rintro e w' ⟨rfl, rfl⟩
  go_wp2_with fail
  refine (C3.out _ _).mono ?_
  rintro e w' ⟨rfl, rfl⟩
  go_wp2_with fail
  go_ret2
  exact ⟨_, rfl, (((Below.refl _ _).alloc (Nat.le_refl _) _).alloc (by simp) _).alloc (by simp; omega) _⟩
set_option maxHeartbeats 4000000 in
theorem cbuild0 (A : Option Addr) (c : Nat) (w : World) :
    Calls Tryz.prog 157 #[.slice A 0 c] w fun e w' => ∃ B, e = .returned (.tuple #[.agg #[.int .i64 0, .slice none 0 0, .slice B 0 0], .int .i64 0]) ∧ Below w.heap.size w w' := by
  have hb0 := (Below.refl w.heap.size w).alloc (Nat.le_refl _) (.cells #[.int .i64 0, .slice none 0 0, .slice none 0 0] 57)
  have x0 := Cx.Cb.new w 0 none 0 0 none 0 0
  obtain ⟨wa, hwa⟩ : ∃ wa, wa = w.alloc (.cells #[.int .i64 0, .slice none 0 0, .slice none 0 0] 57) := ⟨_, rfl⟩
  rw [← hwa] at x0 hb0
  have Hwa := Lib.hid hwa
  have C1 := Lib.hid (number0 A c wa)
  have C2 := Lib.hid fun W => Cx.cwidth_any 0 (by omega) W
  have C3 := Lib.hid fun R d W => pack0 R d W
  rw [show Bc.wid (((0 : Nat) : Int) - 1) = 0 from Bc.wid_lo _ (by decide)] at C2
  clear hwa
  go_enter Tryz.func157, Tryz.ntmps157
  go_wp2_with fail
  rw [← Hwa.out]
  refine C1.out.mono ?_
  rintro e w1 ⟨B1, rfl, hB1⟩
  go_wp2_with fail
  refine (C2.out _).mono ?_
  rintro e w2 ⟨rfl, hq⟩
  have hq' := hq.symm
  clear hq
  subst hq'
  go_wp2_with fail
  refine (C3.out _ _ _).mono ?_
  rintro e w3 ⟨B3, rfl, hB3⟩
  have hb3 := hb0.trans ((hB1.trans (hB3.mono hB1.size)).mono hb0.size)
  have y3 := x0.below x0.lt (hB1.trans (hB3.mono hB1.size))
  have z0 := y3.c0
  have z1 := y3.c1
  have z2 := y3.c2
  have f0 := y3.bx.free 0
  have f1 := y3.bx.free 1
  have f2 := y3.bx.free 2
  have Hx := Lib.hid (Cx.box3 (x := .int .i64 0) (y := .slice none 0 0) (z := .slice B3 0 0) y3.bx)
  go_wp2_with fail
  have g0 := Hx.out.cell 0
  have g1 := Hx.out.cell 1
  have g2 := Hx.out.cell 2
  refine bodyPost_ret (v := .tuple #[.agg #[.int .i64 0, .slice none 0 0, .slice B3 0 0], .int .i64 0]) ?_ rfl ⟨B3, rfl, ((hb3.setCell (Nat.le_refl _) _).setCell (Nat.le_refl _) _).setCell (Nat.le_refl _) _⟩
  rw [Cx.res_cell2 rfl]; go_simp
set_option maxHeartbeats 4000000 in
theorem arrange0 (A : Option Addr) (n c : Nat) (k1 k2 k3 k4 : Int) (w : World) :
    Calls Tryz.prog 106 #[.agg #[.slice A n c, .int .i64 k1, .int .i64 k2, .int .i64 k3, .int .i64 k4], .slice none 0 0] w fun e w' => ∃ Q, e = .returned (.slice Q 0 0) ∧ Below w.heap.size w w' := by
  obtain ⟨zc, hmk⟩ := make0
  have hmf : ∀ (fn : Fn) (first cap : Array Value) (w : World), (Instr.makeFunc fn first cap).run Tryz.prog w = .ok (.func fn first cap) w := fun _ _ _ _ => rfl
  have Cs := Lib.hid fun p fv W => sort0 p 0 fv W
  go_enter Tryz.func106, Tryz.ntmps106
  go_wp2_with fail
  refine wp_loop_rounds 1 ?_
  rw [rounds_succ]
  go_wp2_with fail
  refine (Cs.out _ _ _).mono ?_
  rintro e w5 ⟨rfl, rfl⟩
  go_wp2_with fail
  go_ret
  exact ⟨_, rfl, (((Below.refl _ _).alloc (Nat.le_refl _) _).alloc (by simp) _).alloc (by simp; omega) _⟩
def ColJ (w0 w : World) (g N : Nat) : Prop := ∃ L : List Cr, L.length = N ∧ Wd.Bx w g 57 (Wd.flatC L).toArray ∧ w0.heap.size ≤ g ∧ Below w0.heap.size w0 w
set_option maxHeartbeats 8000000 in
theorem columns0 (N : Nat) (O : Option Addr) (oc : Nat) (w : World) (hN : N ≤ 1000000) :
    Calls Tryz.prog 107 #[.int .i64 (N : Int), .slice none 0 0, .slice O 0 oc] w fun e w' => ∃ K, e = .returned (.tuple #[.slice K N N, .int .i64 0]) ∧ Below w.heap.size w w' := by
  obtain ⟨i0, hi, hz0, hz1, hz2⟩ := info_parts Wd.info_col
  obtain ⟨j0, hj, gz0, gz1, gz2⟩ := info_parts Wd.info_vl
  obtain ⟨zc, hzc⟩ : ∃ zc : Array Value, zc = (Wd.flatC (List.replicate N default)).toArray := ⟨_, rfl⟩
  have hmk : ∀ X : World, (Instr.makeSlice 26 (.int .i64 (N : Int)) (.int .i64 (N : Int))).run Tryz.prog X = .ok (.slice (some ⟨X.heap.size, 0, none⟩) N N) (X.alloc (.cells zc 57)) := fun X => by
    have := run_make (P := Tryz.prog) X 26 57 i0 _ Tryz.underlying26 hi hz0 .i64 .i64 (N : Int) (N : Int) (by omega) (by omega) (by rw [hz2]; omega) (by omega)
    rw [this, hzc, hz1, Int.toNat_natCast, ← Wd.made_col]
  obtain ⟨zv, hmv⟩ : ∃ zv : Array Value, ∀ X : World, (Instr.makeSlice 48 (.int .i64 0) (.int .i64 0)).run Tryz.prog X = .ok (.slice (some ⟨X.heap.size, 0, none⟩) 0 0) (X.alloc (.cells zv 47)) :=
    ⟨_, fun X => run_make (P := Tryz.prog) X 48 47 j0 _ Tryz.underlying48 hj gz0 .i64 .i64 0 0 (by omega) (by omega) (by rw [gz2]; omega) (by omega)⟩
  have rowc := Lib.hid fun X : World => (by rw [hzc]; exact Wd.Bx.new X _ _ : Wd.Bx (X.alloc (.cells zc 57)) X.heap.size 57 (Wd.flatC (List.replicate N default)).toArray)
  clear hzc
  go_enter Tryz.func107, Tryz.ntmps107
  go_upto_region 1 with fail
  go_cut [8, 9] (fun u v wx => ∃ g h, u = .slice (some ⟨g, 0, none⟩) N N ∧ v = .slice (some ⟨h, 0, none⟩) 0 0 ∧ Hid (ColJ w wx g N))
  case first =>
    go_region
    all_goals (
      go_wp2_with fail
      go_meet)
    · exact ⟨w.heap.size, w.heap.size + 1, rfl, rfl, Lib.hid ⟨List.replicate N default, by simp, ((rowc.out w).alloc _).drew, Nat.le_refl _, (((Below.refl _ _).alloc (Nat.le_refl _) _).alloc (by simp) _).drew⟩⟩
    · refine ⟨w.heap.size + 1, w.heap.size, rfl, rfl, Lib.hid ⟨List.replicate N default, by simp, ?_, by omega, (((Below.refl _ _).alloc (Nat.le_refl _) _).alloc (by simp) _).drew⟩⟩
      have := rowc.out (w.alloc (.cells zv 47))
      rw [World.size_alloc] at this
      exact this.drew
  case rest =>
    obtain ⟨g, h, rfl, rfl, hI⟩ := hcut
    clear rowc hmk hmv zc zv
    go_wp2_with fail
    go_loopw [22] (fun i wr => ∃ k : Nat, i = .int .i64 k ∧ k ≤ N ∧ Hid (ColJ w wr g N)) (fun i _ => N - (intOf i).toNat)
    case atStart => exact ⟨0, rfl, Nat.zero_le _, hI⟩
    case round =>
      clear hI
      obtain ⟨k, rfl, hk, hI⟩ := hrel
      by_cases hlt : k < N
      · have hkI : (k : Int) < (N : Int) := by omega
        have Cb := Lib.hid fun W => cbuild0 (some ⟨h, 0, none⟩) 0 W
        go_wp2_with fail
        refine wp_loop_rounds 1 ?_
        rw [rounds_succ]
        go_wp2_with fail
        refine (Cb.out _).mono ?_
        rintro e w5 ⟨B5, rfl, hB5⟩
        obtain ⟨L, h1, h2, h3, h4⟩ := hI.out
        have x6 := (h2.below h2.lt hB5).alloc (.cells #[.int .i64 0, .slice none 0 0, .slice B5 0 0] 57)
        have bx6 := Cx.Cb.new w5 0 none 0 0 B5 0 0
        have b6 := (h4.trans (hB5.mono h4.size)).alloc (Nat.le_trans h4.size hB5.size) (.cells #[.int .i64 0, .slice none 0 0, .slice B5 0 0] 57)
        go_upto_region 11 with fail
        generalize hw6 : w5.alloc (.cells #[.int .i64 0, .slice none 0 0, .slice B5 0 0] 57) = w6 at *
        clear hw6 h2 h4 hB5
        have hkL : k < L.length := by omega
        have hset := x6.set3 k hkL ⟨none, 0, 0, B5, 0, 0, ⟨0, [], []⟩⟩
        have b7 := ((b6.setCell (p := ⟨g, k * 3, none⟩) h3 (.int .i64 0)).setCell (p := ⟨g, k * 3 + 1, none⟩) h3 (.slice none 0 0)).setCell (p := ⟨g, k * 3 + 2, none⟩) h3 (.slice B5 0 0)
        have H7 := Lib.hid (show ColJ w _ g N from ⟨_, by simp [h1], hset, h3, b7⟩)
        have cc : ∀ (i : Nat) (u : Value), (L.getD k default).vals[i]? = some u → w6.cell? ⟨g, k * 3 + i, none⟩ = some u := fun i u hu => (x6.cell (k * 3 + i)).trans (by rw [List.getElem?_toArray]; exact Wd.flatC_get L k hkL i u hu)
        have q0 : w6.cell? ⟨g, k * 3, none⟩ = some (.int .i64 (L.getD k default).C.n) := cc 0 _ rfl
        have q1 : w6.cell? ⟨g, k * 3 + 1, none⟩ = some (.slice (L.getD k default).A (L.getD k default).n (L.getD k default).c) := cc 1 _ rfl
        have q2 : w6.cell? ⟨g, k * 3 + 2, none⟩ = some (.slice (L.getD k default).B (L.getD k default).m (L.getD k default).d) := cc 2 _ rfl
        generalize L.getD k default = lk at q0 q1 q2
        have g0 := x6.free (k * 3)
        have g1 := x6.free (k * 3 + 1)
        have g2 := x6.free (k * 3 + 2)
        have r0 := bx6.c0
        have r1 := bx6.c1
        have r2 := bx6.c2
        clear cc hset b7 b6 x6 bx6 hkL h1
        go_wp2_with fail
        go_roundw
        case rel => exact ⟨k + 1, by go_num, by omega, H7⟩
        case measure => simp [intOf]; omega
      · have hkI : ¬ (k : Int) < (N : Int) := by omega
        go_wp2_with fail
        go_ret2
        obtain ⟨L, h1, h2, h3, h4⟩ := hI.out
        exact ⟨⟨_, rfl⟩, h4⟩
set_option maxHeartbeats 8000000 in
theorem build0 (A : Option Addr) (n c : Nat) (s : Sch) (w : World) (hS : Wd.Cs w A n c s.cols) (hm : MayS s) (hn : n ≤ 1000000) :
    Calls Tryz.prog 63 #[.agg #[.slice A n c, .int .i64 s.key, .int .i64 s.cmp, .int .i64 s.del, .int .i64 s.sort], .agg #[.int .i64 0, .int .i64 1, .int .i64 0, .int .i64 0, .slice none 0 0, .slice none 0 0], .slice none 0 0, .slice none 0 0] w fun e w' =>
      ∃ K Q, e = .returned (.tuple #[.agg #[.int .i64 0, .int .i64 1, .int .i64 0, .int .i64 0, .slice none 0 0, .slice K n n], .slice Q 0 0, .int .i64 0]) ∧ Below w.heap.size w w' := by
  obtain ⟨w1, hw1⟩ : ∃ w1, w1 = ((w.alloc (.cells #[.slice A n c, .int .i64 s.key, .int .i64 s.cmp, .int .i64 s.del, .int .i64 s.sort] 24)).alloc (.cells #[.int .i64 0, .int .i64 1, .int .i64 0, .int .i64 0, .slice none 0 0, .slice none 0 0] 28)).alloc (.cells #[.int .i64 0, .int .i64 0, .int .i64 0, .int .i64 0, .slice none 0 0, .slice none 0 0] 28) := ⟨_, rfl⟩
  have hB1 : Se.Bs w w1 A n c s none 0 0 none 0 0 ⟨0, 1, 0, 0, [], []⟩ := by
    have z1 : (w.alloc (.cells #[.slice A n c, .int .i64 s.key, .int .i64 s.cmp, .int .i64 s.del, .int .i64 s.sort] 24)).heap.size = w.heap.size + 1 := by simp
    have z2 : ((w.alloc (.cells #[.slice A n c, .int .i64 s.key, .int .i64 s.cmp, .int .i64 s.del, .int .i64 s.sort] 24)).alloc (.cells #[.int .i64 0, .int .i64 1, .int .i64 0, .int .i64 0, .slice none 0 0, .slice none 0 0] 28)).heap.size = w.heap.size + 1 + 1 := by simp
    have g1 := Se.Gb.new (w.alloc (.cells #[.slice A n c, .int .i64 s.key, .int .i64 s.cmp, .int .i64 s.del, .int .i64 s.sort] 24)) 0 1 0 0 none 0 0 none 0 0
    have g2 := Se.Gb.new ((w.alloc (.cells #[.slice A n c, .int .i64 s.key, .int .i64 s.cmp, .int .i64 s.del, .int .i64 s.sort] 24)).alloc (.cells #[.int .i64 0, .int .i64 1, .int .i64 0, .int .i64 0, .slice none 0 0, .slice none 0 0] 28)) 0 0 0 0 none 0 0 none 0 0
    rw [z1] at g1
    rw [z2] at g2
    rw [hw1]
    exact ⟨((Wd.Bx.new w _ _).alloc _).alloc _, g1.alloc _, g2, (((Below.refl _ _).alloc (Nat.le_refl _) _).alloc (by simp) _).alloc (by simp; omega) _, by simp⟩
  have Hw1 := Lib.hid hw1
  have HB1 := Lib.hid hB1
  have HS := Lib.hid hS
  have Hm := Lib.hid hm
  have Hn := Lib.hid hS.len
  have Ch := Se.head_any none 0 0 none 0 0 ⟨0, 1, 0, 0, [], []⟩ w1
  rw [tr_yes (show Se.Head ⟨0, 1, 0, 0, [], []⟩ from ⟨by decide, by decide, by decide, by decide, by decide, by decide, by decide⟩)] at Ch
  have Ch := Lib.hid Ch
  obtain ⟨c0, c1, c2, c3, c4⟩ := five hB1.s
  obtain ⟨d0, d1, d2, d3, d4, d5⟩ := hB1.x.six
  clear hw1 hB1 hS hm
  go_enter Tryz.func63, Tryz.ntmps63
  go_upto_region 1 with fail
  rw [← Hw1.out]
  go_wp2_with fail
  refine Ch.out.mono ?_
  rintro e w2 ⟨rfl, hB2⟩
  have H2 := Lib.hid (HB1.out.below hB2)
  have C2 := Se.rise_any none 0 0 none 0 0 0 1 0 0 none 0 0 [] w2 (Wd.Sl.none_ _ _) (by decide) (by decide) (by decide)
  rw [tr_yes (show Se.Rise 0 0 [] from trivial)] at C2
  have C2 := Lib.hid C2
  obtain ⟨d0, d1, d2, d3, d4, d5⟩ := H2.out.x.six
  clear hB2 c0 c1 c2 c3 c4 Ch
  go_wp2_with fail
  refine C2.out.mono ?_
  rintro e w3 ⟨rfl, hB3⟩
  have H3 := Lib.hid (H2.out.below hB3)
  have C3 := Se.fit_any A n c s none 0 0 [] w3 (HS.out.below H3.out.b) (Wd.Ls.none_ _) hn
  rw [tr_yes (show Se.Fit s [] from ⟨Hm.out, fun r hr => by cases hr⟩)] at C3
  have C3 := Lib.hid C3
  obtain ⟨c0, c1, c2, c3, c4⟩ := five H3.out.s
  clear hB3 d0 d1 d2 d3 d4 d5 C2
  go_wp2_with fail
  refine C3.out.mono ?_
  rintro e w4 ⟨rfl, hB4⟩
  have H4 := Lib.hid (H3.out.below hB4)
  have Ca := Lib.hid fun W => arrange0 A n c s.key s.cmp s.del s.sort W
  clear hB4 c0 c1 c2 c3 c4 C3
  obtain ⟨c0, c1, c2, c3, c4⟩ := five H4.out.s
  go_wp2_with fail
  refine (Ca.out _).mono ?_
  rintro e w5 ⟨Q, rfl, hB5⟩
  have H5 := Lib.hid (H4.out.below hB5)
  have Cc := Lib.hid fun W => columns0 n Q 0 W hn
  clear hB5 c0 c1 c2 c3 c4 Ca
  obtain ⟨c0, c1, c2, c3, c4⟩ := five H5.out.s
  go_wp2_with fail
  refine (Cc.out _).mono ?_
  rintro e w6 ⟨K, rfl, hB6⟩
  have H6 := Lib.hid (H5.out.below hB6)
  clear hB6 c0 c1 c2 c3 c4 Cc
  obtain ⟨d0, d1, d2, d3, d4, d5⟩ := H6.out.x.six
  go_upto_region 10 with fail
  have x7 := Se.Gb.new w6 0 1 0 0 none 0 0 K n n
  have H7 := Lib.hid (H6.out.below ((Below.refl w6.heap.size w6).alloc (Nat.le_refl _) (.cells #[.int .i64 0, .int .i64 1, .int .i64 0, .int .i64 0, .slice none 0 0, .slice K n n] 28)))
  generalize w6.alloc (.cells #[.int .i64 0, .int .i64 1, .int .i64 0, .int .i64 0, .slice none 0 0, .slice K n n] 28) = w7 at *
  clear d0 d1 d2 d3 d4 d5
  go_wp2_with fail
  refine wp_loop_rounds 1 ?_
  rw [rounds_succ]
  obtain ⟨d0, d1, d2, d3, d4, d5⟩ := x7.six
  have hr := H7.out.r
  obtain ⟨u0, u1, u2, u3, u4, u5⟩ := Se.Gb.six hr
  have f0 := hr.free 0
  have f1 := hr.free 1
  have f2 := hr.free 2
  have f3 := hr.free 3
  have f4 := hr.free 4
  have f5 := hr.free 5
  have K6 := Lib.hid (Se.box6 (x0 := .int .i64 0) (x1 := .int .i64 1) (x2 := .int .i64 0) (x3 := .int .i64 0) (x4 := .slice none 0 0) (x5 := .slice K n n) hr)
  have B6 := Lib.hid (Se.below6 H7.out.b (p := w.heap.size + 1 + 1) (by omega) (.int .i64 0) (.int .i64 1) (.int .i64 0) (.int .i64 0) (.slice none 0 0) (.slice K n n))
  clear hr x7
  go_wp2_with fail
  have g0 := K6.out.cell 0
  have g1 := K6.out.cell 1
  have g2 := K6.out.cell 2
  have g3 := K6.out.cell 3
  have g4 := K6.out.cell 4
  have g5 := K6.out.cell 5
  refine bodyPost_ret (v := .tuple #[.agg #[.int .i64 0, .int .i64 1, .int .i64 0, .int .i64 0, .slice none 0 0, .slice K n n], .slice Q 0 0, .int .i64 0]) ?_ rfl ⟨_, _, rfl, B6.out⟩
  rw [Vc.res_cell3 rfl]; go_simp
end Fi
end Go.Proofs.YtaoeipehpakngaaGreatDoor
namespace Go.Proofs.YtaoeipehpakngaaGreatDoor
set_option maxRecDepth 20000
open Go.RowKit
namespace Fi
open Se (Seg Sg Gb Lt Ok LightG box6 mv6)
open Sc (Sch MayS tr tr_yes tr_no)
open Sx (Sb five)
open Wd (Cr)
set_option maxHeartbeats 4000000 in
theorem mayHave_yes (A : Option Addr) (n c : Nat) (s : Sch) (w : World) (hS : Wd.Cs w A n c s.cols) (hm : MayS s) (hn : n ≤ 1000000) :
    Calls Tryz.prog 28 #[.agg #[.slice A n c, .int .i64 s.key, .int .i64 s.cmp, .int .i64 s.del, .int .i64 s.sort]] w fun e w' => e = .returned (.bool true) ∧ Below w.heap.size w w' := by
  have hb0 := (Below.refl w.heap.size w).alloc (Nat.le_refl _) (.cells #[.slice A n c, .int .i64 s.key, .int .i64 s.cmp, .int .i64 s.del, .int .i64 s.sort] 24)
  have s0 : Sb (w.alloc (.cells #[.slice A n c, .int .i64 s.key, .int .i64 s.cmp, .int .i64 s.del, .int .i64 s.sort] 24)) w.heap.size A n c s.key s.cmp s.del s.sort := Wd.Bx.new w _ _
  obtain ⟨w1, hw1⟩ : ∃ w1, w1 = w.alloc (.cells #[.slice A n c, .int .i64 s.key, .int .i64 s.cmp, .int .i64 s.del, .int .i64 s.sort] 24) := ⟨_, rfl⟩
  rw [← hw1] at hb0 s0
  have Cb := Lib.hid (build0 A n c s w1 (hS.below hb0) hm hn)
  obtain ⟨c0, c1, c2, c3, c4⟩ := five s0
  have Hb0 := Lib.hid hb0
  have Hw1 := Lib.hid hw1
  clear hw1 hb0 s0 hS hm
  go_enter Tryz.func28, Tryz.ntmps28
  go_upto_region 1 with fail
  rw [← Hw1.out]
  go_wp2_with fail
  refine Cb.out.mono ?_
  intro e w2 h
  obtain ⟨K, Q, rfl, h3⟩ := h
  have B2 := Lib.hid (Hb0.out.trans (h3.mono Hb0.out.size))
  clear h3 Cb c0 c1 c2 c3 c4
  go_wp2_with fail
  go_ret
  exact ⟨rfl, B2.out.alloc B2.out.size _⟩
theorem dec_boxes (A : Option Addr) (n c : Nat) (s : Sch) (w : World) : Sb ((w.alloc (.cells #[.slice A n c, .int .i64 s.key, .int .i64 s.cmp, .int .i64 s.del, .int .i64 s.sort] 24)).alloc (.cells #[.int .i64 0, .int .i64 0, .int .i64 0, .int .i64 0, .slice none 0 0, .slice none 0 0] 28)) w.heap.size A n c s.key s.cmp s.del s.sort ∧
    Gb ((w.alloc (.cells #[.slice A n c, .int .i64 s.key, .int .i64 s.cmp, .int .i64 s.del, .int .i64 s.sort] 24)).alloc (.cells #[.int .i64 0, .int .i64 0, .int .i64 0, .int .i64 0, .slice none 0 0, .slice none 0 0] 28)) (w.heap.size + 1) 0 0 0 0 none 0 0 none 0 0 ∧
    Below w.heap.size w ((w.alloc (.cells #[.slice A n c, .int .i64 s.key, .int .i64 s.cmp, .int .i64 s.del, .int .i64 s.sort] 24)).alloc (.cells #[.int .i64 0, .int .i64 0, .int .i64 0, .int .i64 0, .slice none 0 0, .slice none 0 0] 28)) := by
  have h := boxes w A n c s none 0 0 none 0 0 ⟨0, 0, 0, 0, [], []⟩
  exact ⟨h.s, h.x, h.b⟩
section
variable (A : Option Addr) (n c : Nat) (s : Sch) (B : Option Addr) (m d : Nat) (x : Seg) (w : World) (hS : Wd.Cs w A n c s.cols) (hok : Ok s x) (hG : Good x) (hn : n ≤ 100000)
include hS hok hG hn
set_option maxHeartbeats 8000000 in
theorem Decode_yes (hl : LightG x) (hB : Wd.Sl w .u8 B m d (fileB x)) :
    Calls Tryz.prog 12 #[.agg #[.slice A n c, .int .i64 s.key, .int .i64 s.cmp, .int .i64 s.del, .int .i64 s.sort], .slice B m d] w fun e w' =>
      ∃ OA on oc CA cn cc os, e = .returned (.tuple #[.agg #[.int .i64 x.part, .int .i64 x.id, .int .i64 x.st, .int .i64 x.en, .slice OA on oc, .slice CA cn cc], .int .i64 0]) ∧ Sg w' OA on oc CA cn cc os x ∧ Below w.heap.size w w' := by
  obtain ⟨s1, r1, b1⟩ := dec_boxes A n c s w
  obtain ⟨w1, hw1⟩ : ∃ w1, w1 = (w.alloc (.cells #[.slice A n c, .int .i64 s.key, .int .i64 s.cmp, .int .i64 s.del, .int .i64 s.sort] 24)).alloc (.cells #[.int .i64 0, .int .i64 0, .int .i64 0, .int .i64 0, .slice none 0 0, .slice none 0 0] 28) := ⟨_, rfl⟩
  rw [← hw1] at s1 r1 b1
  have Ch := Lib.hid (mayHave_yes A n c s w1 (hS.below b1) hok.fit.1 (by omega))
  have hnum : n = x.cols.length := by rw [hok.num]; exact hS.len
  obtain ⟨c0, c1, c2, c3, c4⟩ := five s1
  have HX := Lib.hid (And.intro hS (And.intro hB (And.intro hok (And.intro hG hl))))
  have Hnum := Lib.hid hnum
  have S1 := Lib.hid s1
  have R1 := Lib.hid r1
  have B1 := Lib.hid b1
  have Hw1 := Lib.hid hw1
  have hp1 : w.heap.size + 1 < w1.heap.size := r1.lt
  clear hw1 s1 r1 b1 hS hB hok hG hl hnum
  go_enter Tryz.func12, Tryz.ntmps12
  go_upto_region 1 with fail
  rw [← Hw1.out]
  go_wp2_with fail
  refine Ch.out.mono ?_
  rintro e w2 ⟨rfl, hB2⟩
  have S2 := Lib.hid (S1.out.below S1.out.lt hB2)
  have R2 := Lib.hid (R1.out.below R1.out.lt hB2)
  have B2 := Lib.hid (B1.out.trans (hB2.mono B1.out.size))
  have hp2 : w.heap.size + 1 < w2.heap.size := Nat.lt_of_lt_of_le hp1 hB2.size
  have Cr := read_yes B m d x w2 (HX.out.2.1.below B2.out) HX.out.2.2.2.1 (by rw [← Hnum.out]; exact hn)
  rw [← Hnum.out] at Cr
  have Cr := Lib.hid Cr
  clear hB2 Ch c0 c1 c2 c3 c4 hp1
  obtain ⟨c0, -, -, -, -⟩ := five S2.out
  go_wp2_with fail
  refine Cr.out.mono ?_
  rintro e w3 ⟨OA, on, oc, CA, cn, cc, os, rfl, hN3, hB3⟩
  have al := (Below.refl w3.heap.size w3).alloc (Nat.le_refl _) (.cells #[.int .i64 x.part, .int .i64 x.id, .int .i64 x.st, .int .i64 x.en, .slice OA on oc, .slice CA cn cc] 28)
  have x4 := Gb.new w3 x.part x.id x.st x.en OA on oc CA cn cc
  obtain ⟨w4, hw4⟩ : ∃ w4, w4 = w3.alloc (.cells #[.int .i64 x.part, .int .i64 x.id, .int .i64 x.st, .int .i64 x.en, .slice OA on oc, .slice CA cn cc] 28) := ⟨_, rfl⟩
  rw [← hw4] at al x4
  have b24 := hB3.trans (al.mono hB3.size)
  have S4 := Lib.hid (S2.out.below S2.out.lt b24)
  have R4 := Lib.hid (R2.out.below R2.out.lt b24)
  have B4 := Lib.hid (B2.out.trans (b24.mono B2.out.size))
  have N4 := Lib.hid (hN3.below al)
  have X4 := Lib.hid x4
  have hsg := N4.out.sg HX.out.2.2.2.1.nice
  have Cm := Se.may_any A n c s OA on oc CA cn cc os x w4 (HX.out.1.below B4.out) hsg (lt_light hsg HX.out.2.2.2.2) (by omega) (by have := hsg.num; have := Hnum.out; omega) (by have := hsg.offs.len; have := HX.out.2.2.1.len; omega)
  rw [tr_yes HX.out.2.2.1] at Cm
  have Cm := Lib.hid Cm
  have Hw4 := Lib.hid hw4
  clear hw4 hB3 al x4 b24 hN3 hsg Cr c0
  obtain ⟨c0, c1, c2, c3, c4⟩ := five S4.out
  obtain ⟨d0, d1, d2, d3, d4, d5⟩ := Gb.six X4.out
  go_upto_region 4 with fail
  rw [← Hw4.out]
  go_wp2_with fail
  refine Cm.out.mono ?_
  rintro e w5 ⟨rfl, hB5⟩
  have X5 := X4.out.below X4.out.lt hB5
  have R5 := R4.out.below R4.out.lt hB5
  have N5 := N4.out.below hB5
  have B5 := B4.out.trans (hB5.mono B4.out.size)
  clear hB5 c0 c1 c2 c3 c4 d0 d1 d2 d3 d4 d5 Cm
  obtain ⟨d0, d1, d2, d3, d4, d5⟩ := Gb.six X5
  obtain ⟨u0, u1, u2, u3, u4, u5⟩ := Gb.six R5
  have f0 := R5.free 0
  have f1 := R5.free 1
  have f2 := R5.free 2
  have f3 := R5.free 3
  have f4 := R5.free 4
  have f5 := R5.free 5
  have M6 := mv6 w5 (w.heap.size + 1) (.int .i64 x.part) (.int .i64 x.id) (.int .i64 x.st) (.int .i64 x.en) (.slice OA on oc) (.slice CA cn cc)
  have K6 := Lib.hid (box6 (x0 := .int .i64 x.part) (x1 := .int .i64 x.id) (x2 := .int .i64 x.st) (x3 := .int .i64 x.en) (x4 := .slice OA on oc) (x5 := .slice CA cn cc) R5)
  have S6 := Lib.hid ((N5.kept R5 M6 hp2).sg HX.out.2.2.2.1.nice)
  have B6 := Lib.hid (B5.trans (M6.below (fun g e => by rw [e]; exact Nat.le_succ _) B5.size))
  clear M6 R5 N5 B5 X5
  go_wp2_with fail
  have g0 := K6.out.cell 0
  have g1 := K6.out.cell 1
  have g2 := K6.out.cell 2
  have g3 := K6.out.cell 3
  have g4 := K6.out.cell 4
  have g5 := K6.out.cell 5
  refine bodyPost_ret (v := .tuple #[.agg #[.int .i64 x.part, .int .i64 x.id, .int .i64 x.st, .int .i64 x.en, .slice OA on oc, .slice CA cn cc], .int .i64 0]) ?_ rfl ⟨OA, on, oc, CA, cn, cc, os, rfl, S6.out, B6.out⟩
  rw [Cx.res_cell2 rfl]; go_simp
set_option maxHeartbeats 8000000 in
theorem Decode_no (ys : List Int) (hB : Wd.Sl w .u8 B m d ys) (hby : Nm.Byt ys) (hm : m ≤ 1000000) (hbad : (Fr.rd ys).2 ≠ ys.length ∨ Bad x (Fr.rd ys).1) :
    Calls Tryz.prog 12 #[.agg #[.slice A n c, .int .i64 s.key, .int .i64 s.cmp, .int .i64 s.del, .int .i64 s.sort], .slice B m d] w fun e w' =>
      e = .returned (.tuple #[.agg #[.int .i64 0, .int .i64 0, .int .i64 0, .int .i64 0, .slice none 0 0, .slice none 0 0], .int .i64 7]) ∧ Below w.heap.size w w' := by
  obtain ⟨s1, r1, b1⟩ := dec_boxes A n c s w
  obtain ⟨w1, hw1⟩ : ∃ w1, w1 = (w.alloc (.cells #[.slice A n c, .int .i64 s.key, .int .i64 s.cmp, .int .i64 s.del, .int .i64 s.sort] 24)).alloc (.cells #[.int .i64 0, .int .i64 0, .int .i64 0, .int .i64 0, .slice none 0 0, .slice none 0 0] 28) := ⟨_, rfl⟩
  rw [← hw1] at s1 r1 b1
  have Ch := Lib.hid (mayHave_yes A n c s w1 (hS.below b1) hok.fit.1 (by omega))
  have hnum : n = x.cols.length := by rw [hok.num]; exact hS.len
  obtain ⟨c0, c1, c2, c3, c4⟩ := five s1
  have HX := Lib.hid (And.intro hB (And.intro hby (And.intro hG.nice hbad)))
  have Hnum := Lib.hid hnum
  have S1 := Lib.hid s1
  have R1 := Lib.hid r1
  have B1 := Lib.hid b1
  have Hw1 := Lib.hid hw1
  clear hw1 s1 r1 b1 hS hB hok hG hnum hby hbad
  go_enter Tryz.func12, Tryz.ntmps12
  go_upto_region 1 with fail
  rw [← Hw1.out]
  go_wp2_with fail
  refine Ch.out.mono ?_
  rintro e w2 ⟨rfl, hB2⟩
  have S2 := Lib.hid (S1.out.below S1.out.lt hB2)
  have R2 := Lib.hid (R1.out.below R1.out.lt hB2)
  have B2 := Lib.hid (B1.out.trans (hB2.mono B1.out.size))
  have Cr := read_no B m d ys x w2 (HX.out.1.below B2.out) HX.out.2.1 HX.out.2.2.1 hm HX.out.2.2.2
  rw [← Hnum.out] at Cr
  have Cr := Lib.hid Cr
  clear hB2 Ch c0 c1 c2 c3 c4
  obtain ⟨c0, -, -, -, -⟩ := five S2.out
  go_wp2_with fail
  refine Cr.out.mono ?_
  rintro e w3 ⟨a1, a2, a3, a4, OA, on, oc, CA, cn, cc, rfl, hB3⟩
  have al := (Below.refl w3.heap.size w3).alloc (Nat.le_refl _) (.cells #[.int .i64 a1, .int .i64 a2, .int .i64 a3, .int .i64 a4, .slice OA on oc, .slice CA cn cc] 28)
  obtain ⟨w4, hw4⟩ : ∃ w4, w4 = w3.alloc (.cells #[.int .i64 a1, .int .i64 a2, .int .i64 a3, .int .i64 a4, .slice OA on oc, .slice CA cn cc] 28) := ⟨_, rfl⟩
  rw [← hw4] at al
  have b24 := hB3.trans (al.mono hB3.size)
  have R5 := R2.out.below R2.out.lt b24
  have B5 := B2.out.trans (b24.mono B2.out.size)
  have Hw4 := Lib.hid hw4
  clear hw4 hB3 al b24 Cr c0
  obtain ⟨u0, u1, u2, u3, u4, u5⟩ := Gb.six R5
  have f0 := R5.free 0
  have f1 := R5.free 1
  have f2 := R5.free 2
  have f3 := R5.free 3
  have f4 := R5.free 4
  have f5 := R5.free 5
  have M6 := mv6 w4 (w.heap.size + 1) (.int .i64 0) (.int .i64 0) (.int .i64 0) (.int .i64 0) (.slice none 0 0) (.slice none 0 0)
  have K6 := Lib.hid (box6 (x0 := .int .i64 0) (x1 := .int .i64 0) (x2 := .int .i64 0) (x3 := .int .i64 0) (x4 := .slice none 0 0) (x5 := .slice none 0 0) R5)
  have B6 := Lib.hid (B5.trans (M6.below (fun g e => by rw [e]; exact Nat.le_succ _) B5.size))
  clear M6 R5 B5
  go_upto_region 4 with fail
  rw [← Hw4.out]
  go_wp2_with fail
  have g0 := K6.out.cell 0
  have g1 := K6.out.cell 1
  have g2 := K6.out.cell 2
  have g3 := K6.out.cell 3
  have g4 := K6.out.cell 4
  have g5 := K6.out.cell 5
  refine bodyPost_ret (v := .tuple #[.agg #[.int .i64 0, .int .i64 0, .int .i64 0, .int .i64 0, .slice none 0 0, .slice none 0 0], .int .i64 7]) ?_ rfl ⟨rfl, B6.out⟩
  rw [Cx.res_cell2 rfl]; go_simp
end
end Fi
end Go.Proofs.YtaoeipehpakngaaGreatDoor
