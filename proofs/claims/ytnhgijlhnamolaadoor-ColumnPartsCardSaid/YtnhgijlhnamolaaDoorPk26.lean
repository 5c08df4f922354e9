/- Package column: Build. Package column: rowsWhere, for whatever function; Range. What the comparisons of layer 1's reference do: Same (bytes), Ints (integers). -/
import Derived.WalkKit
import Derived.WalkSpells
import Derived.Lib.Hide
import Derived.Deep.QuietTactic
import Derived.BigQuiet
import Derived.Test.YtnhgijlhnamolaaDoorPk25
import Derived.Test.YtnhgijlhnamolaaDoorPk18
import Derived.Test.YtnhgijlhnamolaaDoorPk16
import Derived.Test.YtnhgijlhnamolaaDoorPk17
import Derived.Test.YtnhgijlhnamolaaDoorProg
import Derived.Test.YtnhgijlhnamolaaDoorPk02
namespace Go.Proofs.YtnhgijlhnamolaaDoor
set_option maxRecDepth 20000
open Go.RowKit
namespace Cx
open Va (Vl May ord null)
open Sc (tr tr_yes tr_no tr_iff)
open Co Dc
set_option maxHeartbeats 8000000 in
theorem cbuild_any (A : Option Addr) (n c : Nat) (l : List Vl) (w : World) (hV : Wd.Vs w A n c l) (hs : ∀ x ∈ l, x.s.size ≤ maxLen) :
    Calls Tryd.prog 9 #[.slice A n c] w (OutC w (build l)) := by
  have hb0 := (Below.refl w.heap.size w).alloc (Nat.le_refl _) (.cells #[.int .i64 0, .slice none 0 0, .slice none 0 0] 27)
  have x0 := Cb.new w 0 none 0 0 none 0 0
  have Hn := Lib.hid hV.len
  have hcap := hV.cap
  have hmx := hV.max
  unfold maxLen at hmx
  have Hb0 := Lib.hid hb0
  have hbx := x0.bx
  by_cases hlong : 4096 < n
  · rw [build_long (by rw [← Hn.out]; exact hlong)]
    have q1 : (4096 : Int) < (n : Int) := by omega
    have Hx := Lib.hid (box3 (x := .int .i64 0) (y := .slice none 0 0) (z := .slice none 0 0) hbx)
    have c0 := x0.c0
    have c1 := x0.c1
    have c2 := x0.c2
    have f0 := hbx.free 0
    have f1 := hbx.free 1
    have f2 := hbx.free 2
    clear hV hb0 hlong hbx x0
    go_enter Tryd.func9, Tryd.ntmps9
    go_wp2_with fail
    refine bodyPost_ret (v := .tuple #[.agg #[.int .i64 0, .slice none 0 0, .slice none 0 0], .int .i64 2]) ?_ rfl ⟨none, 0, 0, none, 0, 0, rfl, Cl.none_ _, Hb0.out⟩
    rw [res_cell2 rfl]; go_simp
  have q1 : ¬ (4096 : Int) < (n : Int) := by omega
  have hn1 : n ≤ 4096 := by omega
  have C1 := Lib.hid (number_any A n c l _ (hV.below hb0) hs hn1)
  have Hs := Lib.hid hs
  have Hll := Lib.hid (show l.length ≤ 4096 by rw [← Hn.out]; exact hn1)
  clear hV hb0 hs hbx
  obtain ⟨R, hR⟩ : ∃ R, R = build l := ⟨_, rfl⟩
  rw [← hR]
  have HR := Lib.hid hR
  clear hR
  obtain ⟨wa, hwa⟩ : ∃ wa, wa = w.alloc (.cells #[.int .i64 0, .slice none 0 0, .slice none 0 0] 27) := ⟨_, rfl⟩
  have hsz : wa.heap.size = w.heap.size + 1 := by rw [hwa]; simp
  rw [← hwa] at x0 Hb0 C1
  have Hwa := Lib.hid hwa
  clear hwa
  go_enter Tryd.func9, Tryd.ntmps9
  go_wp2_with fail
  rw [← Hwa.out]
  by_cases hm : ∀ v ∈ l, May v
  case neg =>
    rw [nrs_no hm] at C1
    have HRb := Lib.hid (HR.out.trans (build_bad Hll.out hm))
    go_wp2_with fail
    refine C1.out.mono ?_
    rintro e w1 ⟨A1, n1, c1, B1, m1, d1, rfl, -, -, hB1⟩
    have y1 := x0.below x0.lt hB1
    have z0 := y1.c0
    have z1 := y1.c1
    have z2 := y1.c2
    have f0 := y1.bx.free 0
    have f1 := y1.bx.free 1
    have f2 := y1.bx.free 2
    have Hb1 := Lib.hid (Hb0.out.trans (hB1.mono Hb0.out.size))
    have Hx1 := Lib.hid (box3 (x := .int .i64 0) (y := .slice none 0 0) (z := .slice none 0 0) y1.bx)
    clear hB1 y1
    go_wp2_with fail
    have g0 := Hx1.out.cell 0
    have g1 := Hx1.out.cell 1
    have g2 := Hx1.out.cell 2
    refine bodyPost_ret (v := .tuple #[.agg #[.int .i64 0, .slice none 0 0, .slice none 0 0], .int .i64 1]) ?_ rfl (by rw [HRb.out]; exact ⟨none, 0, 0, none, 0, 0, rfl, Cl.none_ _, ((Hb1.out.setCell (Nat.le_refl _) _).setCell (Nat.le_refl _) _).setCell (Nat.le_refl _) _⟩)
    rw [res_cell2 rfl]; go_simp
  rw [nrs_yes hm] at C1
  have Hall := Lib.hid hm
  clear hm
  have Hd5 := Lib.hid (show (dct l).length ≤ 4096 by have := dct_len (l := l); have := Hll.out; omega)
  go_wp2_with fail
  refine C1.out.mono ?_
  rintro e w5 ⟨A5, n5, c5, A7, n7, c7, rfl, hS5, hS7, hB5⟩
  have hb5 := Hb0.out.trans (hB5.mono Hb0.out.size)
  have h5l := hS5.len
  have hn5 : n5 ≤ 4096 := by rw [h5l]; exact Hd5.out
  have h5c := hS5.cap
  have h5m := hS5.max
  unfold maxLen at h5m
  have y5 := x0.below x0.lt hB5
  have hlt5 := y5.lt
  have Cw := Lib.hid (cwidth_any n5 (by omega) w5)
  have e3 : Bc.wid ((n5 : Int) - 1) = wdt (dct l) := by rw [h5l]; rfl
  rw [e3] at Cw
  have hpe0 : Bc.packE (ids l) (wdt (dct l)) = 0 := Bc.packE_ok (wdt_le Hll.out) (by rw [ids_len]; exact Hll.out) (ids_in Hll.out Hall.out)
  have Cp := Lib.hid (Bc.pack_any A7 n7 c7 (wdt (dct l)) (ids l) w5 hS7)
  rw [hpe0] at Cp
  obtain ⟨W, hW⟩ : ∃ W, W = wdt (dct l) := ⟨_, rfl⟩
  obtain ⟨pl, hpl⟩ : ∃ pl, pl = Bc.packL (ids l) (wdt (dct l)) := ⟨_, rfl⟩
  rw [← hpl] at Cp
  rw [← hW] at Cw Cp
  have Hpl := Lib.hid hpl
  have Hb5 := Lib.hid hb5
  have HS5 := Lib.hid hS5
  have H5l := Lib.hid h5l
  clear hS7 e3 hW hpl hb5 hB5 hpe0 hS5 h5l C1
  go_wp2_with (first
    | (go_at_call 28; refine Cw.out.mono ?_; rintro e8 w8 ⟨rfl, hq⟩; have hq' := hq.symm; clear hq; subst hq')
    | (go_at_call 27; refine Cp.out.mono ?_; rintro e8 w8 ⟨A8, n8, c8, rfl, hS8, hB8⟩; have y8 := y5.below hlt5 hB8; have z0 := y8.c0; have z1 := y8.c1; have z2 := y8.c2; have f0 := y8.bx.free 0; have f1 := y8.bx.free 1; have f2 := y8.bx.free 2))
  have Hx8 := Lib.hid (box3 (x := .int .i64 (n : Int)) (y := .slice A5 n5 c5) (z := .slice A8 n8 c8) y8.bx)
  have g0 := Hx8.out.cell 0
  have g1 := Hx8.out.cell 1
  have g2 := Hx8.out.cell 2
  have hb8 := Hb5.out.trans (hB8.mono Hb5.out.size)
  have hV8 := HS5.out.below hB8
  have hnv := vs_ne y8 hV8
  have hns := sl_ne y8 hS8
  refine bodyPost_ret (v := .tuple #[.agg #[.int .i64 (n : Int), .slice A5 n5 c5, .slice A8 n8 c8], .int .i64 0]) ?_ rfl ⟨A5, n5, c5, A8, n8, c8, ?_, ⟨?_, ?_, ?_, ?_, ?_, ?_⟩, ((hb8.setCell (Nat.le_refl _) _).setCell (Nat.le_refl _) _).setCell (Nat.le_refl _) _⟩
  · rw [res_cell2 rfl]; go_simp
  · rw [HR.out, build_ok Hll.out Hall.out, ← Hn.out]
  · rw [HR.out, build_ok Hll.out Hall.out]
    exact vs_store (vs_store (vs_store hV8 hnv _ _) hnv _ _) hnv _ _
  · rw [HR.out, build_ok Hll.out Hall.out, ← Hpl.out]
    exact sl_store (sl_store (sl_store hS8 hns _ _) hns _ _) hns _ _
  · rw [HR.out, build_ok Hll.out Hall.out]
    exact Bc.packL_byt _ _
  · rw [HR.out, build_ok Hll.out Hall.out]
    show -9223372036854775808 ≤ (l.length : Int)
    omega
  · rw [HR.out, build_ok Hll.out Hall.out]
    have := Hll.out
    show (l.length : Int) ≤ 9223372036854775807
    omega
  · rw [HR.out, build_ok Hll.out Hall.out]
    intro x hx
    exact Hs.out x ((dct_mem Hll.out Hall.out x).1 hx)
end Cx
end Go.Proofs.YtnhgijlhnamolaaDoor
namespace Go.Proofs.YtnhgijlhnamolaaDoor
set_option maxRecDepth 20000
open Go.RowKit
namespace Cx
open Va (Vl May ord null)
open Sc (tr tr_yes tr_no tr_iff)
open Co
open Bi (I64 Gv)
open Bx (Rw)
open Bw (St)
open Bc (Goes)
theorem var_below {w w' : World} {p B : Nat} {e : TypeId} {v : Value} (h : Wd.Var w p e v) (hp : p < B) (hb : Below B w w') : Wd.Var w' p e v := (hb.block p hp).trans h
/-- The places whose number is of p. -/
def whr (p : Int → Bool) (L : List Int) (k : Nat) : List Int := ((List.range k).filter fun i => p (L.getD i 0)).map fun (i : Nat) => (i : Int)
theorem whr_yes {p : Int → Bool} {L : List Int} {k : Nat} (h : p (L.getD k 0) = true) : whr p L (k + 1) = whr p L k ++ [(k : Int)] := by
  unfold whr
  rw [List.range_succ, List.filter_append, List.map_append]
  simp only [List.filter_cons, h, List.filter_nil]
  simp
theorem whr_no {p : Int → Bool} {L : List Int} {k : Nat} (h : p (L.getD k 0) = false) : whr p L (k + 1) = whr p L k := by
  unfold whr
  rw [List.range_succ, List.filter_append, List.map_append]
  simp only [List.filter_cons, h, List.filter_nil]
  simp
theorem whr_len (p : Int → Bool) (L : List Int) (k : Nat) : (whr p L k).length ≤ k := by
  unfold whr
  rw [List.length_map]
  have := List.length_filter_le (fun i => p (L.getD i 0)) (List.range k)
  simpa using this
set_option maxHeartbeats 4000000 in
theorem rowsWhere_any (f : Nat) (cap : Array Value) (p : Int → Bool) (A : Option Addr) (n c : Nat) (L : List Int) (w : World) (hS : Wd.Sl w .i64 A n c L) (hn : n ≤ 100000) (hf : Goes f)
    (hp : ∀ x w', Below w.heap.size w w' → Calls Tryd.prog f (#[.int .i64 x] ++ cap) w' fun e w'' => e = .returned (.bool (p x)) ∧ w'' = w') :
    Calls Tryd.prog 41 #[.slice A n c, .func (.func f) #[] cap] w (Gv St w (Bs.ofL (whr p L n))) := by
  have hb0 := (Below.refl w.heap.size w).alloc (Nat.le_refl _) (.cells #[.slice none 0 0] 42)
  have x0 : Wd.Var (w.alloc (.cells #[.slice none 0 0] 42)) w.heap.size 42 (.slice none 0 0) := Wd.Var.new _ _ _
  have Hl := Lib.hid hS.len
  have hcap := hS.cap
  have hmx := hS.max
  unfold maxLen at hmx
  have HS := Lib.hid hS
  have Hp := Lib.hid hp
  obtain ⟨wa, hwa⟩ : ∃ wa, wa = w.alloc (.cells #[.slice none 0 0] 42) := ⟨_, rfl⟩
  have hsz : wa.heap.size = w.heap.size + 1 := by rw [hwa]; simp
  have Hwa := Lib.hid hwa
  rw [← hwa] at x0 hb0
  unfold Goes at hf
  clear hS hp hwa
  go_enter Tryd.func41, Tryd.ntmps41
  go_wp2_with fail
  rw [← Hwa.out]
  go_loopw [5, 10] (fun v j wr => ∃ k : Nat, j = .int .i64 k ∧ k ≤ n ∧ Rw wr wa.heap.size v (whr p L k) ∧ Below wa.heap.size wa wr) (fun _ j _ => n - (intOf j).toNat)
  case atStart => exact ⟨0, rfl, Nat.zero_le _, Rw.nil _ _, Below.refl _ _⟩
  case round =>
    obtain ⟨k, rfl, hk, hO, hB⟩ := hrel
    by_cases hkn : k < n
    · have hkI : (k : Int) < n := by omega
      have hk0 : (0 : Int) ≤ (k : Int) := by omega
      have hkL : k < L.length := by rw [← Hl.out]; exact hkn
      have hbw := hb0.trans (hB.mono hb0.size)
      obtain ⟨b, o, hA, hbl, hc⟩ := (HS.out.below hbw).rd k hkL
      subst hA
      obtain ⟨x, hx⟩ : ∃ x, x = L.getD k 0 := ⟨_, rfl⟩
      rw [← hx] at hc
      have Cp := Lib.hid (Hp.out x wr hbw)
      have hdk : (whr p L k).length ≤ 1000000 := by have := whr_len p L k; omega
      have Hx := Lib.hid hx
      have HO := Lib.hid hO
      have hO4 := hO
      clear hx hkL hO hbw
      cases hpx : p x with
      | true =>
        rw [hpx] at Cp
        have Hpx := Lib.hid hpx
        clear hpx
        go_wp2_with fail
        refine Cp.out.mono ?_
        rintro e w' ⟨rfl, hq⟩
        have hq' := hq.symm
        clear hq
        subst hq'
        go_wp2_with (first | (at_builtin; refine Bx.wpList_app wa rfl (.tmp 18) (.tmp 20) rfl wr u5 (whr p L k) rfl HO.out (k : Int) rfl hdk hB ?_; intro v5 w5 hO5 hB5))
        go_roundw
        case rel => exact ⟨k + 1, by go_num, by omega, by rw [whr_yes (by rw [← Hx.out]; exact Hpx.out)]; exact hO5, hB5⟩
        case measure => simp [intOf]; omega
      | false =>
        rw [hpx] at Cp
        have Hpx := Lib.hid hpx
        clear hpx
        go_wp2_with fail
        refine Cp.out.mono ?_
        rintro e w' ⟨rfl, hq⟩
        have hq' := hq.symm
        clear hq
        subst hq'
        go_wp2_with fail
        go_roundw
        case rel => exact ⟨k + 1, by go_num, by omega, by rw [whr_no (by rw [← Hx.out]; exact Hpx.out)]; exact HO.out, hB⟩
        case measure => simp [intOf]; omega
    · have hkI : ¬ (k : Int) < n := by omega
      obtain rfl : k = n := by omega
      obtain ⟨A6, n6, c6, rfl, hS6⟩ := Wd.Sl.of_own hO
      have hbw := hb0.trans (hB.mono hb0.size)
      have Co := Lib.hid (Bw.of_any A6 n6 c6 _ wr hS6 (by rw [hS6.len]; have := whr_len p L k; omega))
      have x1 : Wd.Var wr w.heap.size 42 (.slice none 0 0) := (hB.block w.heap.size (by omega)).trans x0
      have HB := Lib.hid hbw
      have hxl := x1.lt
      clear hO hB hbw hS6
      go_wp2_with fail
      refine Co.out.mono ?_
      rintro e w7 ⟨A7, n7, c7, rfl, hS7, hB7⟩
      have x2 : Wd.Var w7 w.heap.size 42 (.slice none 0 0) := (hB7.block w.heap.size hxl).trans x1
      have c1 := x2.cell
      have f1 := x2.free
      have HS7 := Lib.hid (St.other hS7 (u := .slice A7 n7 c7) c1)
      have HB7 := Lib.hid (HB.out.trans (hB7.mono HB.out.size))
      have c2 := (Wd.Var.set (u := .slice A7 n7 c7) x2).cell
      clear hS7 hB7
      go_wp2_with fail
      (try simp only [Exit.inBlock, Exit.then])
      refine bodyPost_ret (v := .agg #[.slice A7 n7 c7]) ?_ rfl ⟨_, _, _, rfl, HS7.out, HB7.out.setCell (Nat.le_refl _) _⟩
      rw [Vc.res_cell1 rfl]; go_simp
theorem goes_range : Goes 42 := fun args w => by kernel_rfl
set_option maxHeartbeats 1000000 in
/-- The condition of Range, where its bounds lie in boxes a and b. -/
theorem inRange_any (a b : Nat) (lo hi x : Int) (w : World) (h0 : Wd.Var w a 3 (.int .i64 lo)) (h1 : Wd.Var w b 3 (.int .i64 hi)) :
    Calls Tryd.prog 42 (#[.int .i64 x] ++ #[.pointer (some ⟨a, 0, none⟩), .pointer (some ⟨b, 0, none⟩)]) w fun e w' => e = .returned (.bool (decide (lo ≤ x ∧ x < hi))) ∧ w' = w := by
  have c0 := h0.cell
  have c1 := h1.cell
  obtain ⟨r, hr⟩ : ∃ r, r = decide (lo ≤ x ∧ x < hi) := ⟨_, rfl⟩
  rw [← hr]
  have Hr := Lib.hid hr
  clear hr
  by_cases q0 : lo ≤ x
  · by_cases q1 : x < hi
    · have e := Lib.hid (show r = true from Hr.out.trans (decide_eq_true ⟨q0, q1⟩))
      go_enter Tryd.func42, Tryd.ntmps42
      go_wp2_with fail
      go_ret
      exact ⟨by rw [e.out]; rfl, rfl⟩
    · have e := Lib.hid (show r = false from Hr.out.trans (decide_eq_false fun q => q1 q.2))
      go_enter Tryd.func42, Tryd.ntmps42
      go_wp2_with fail
      go_ret
      exact ⟨by rw [e.out]; rfl, rfl⟩
  · have e := Lib.hid (show r = false from Hr.out.trans (decide_eq_false fun q => q0 q.1))
    go_enter Tryd.func42, Tryd.ntmps42
    go_wp2_with fail
    go_ret
    exact ⟨by rw [e.out]; rfl, rfl⟩
set_option maxHeartbeats 4000000 in
theorem range_any (A : Option Addr) (n c : Nat) (B : Option Addr) (m d : Nat) (C : Col) (lo hi : Int) (w : World) (h : Cl w A n c B m d C) (hn : n ≤ 1000) (hm : m ≤ 1000000) :
    Calls Tryd.prog 17 #[.agg #[.int .i64 C.n, .slice A n c, .slice B m d], .int .i64 lo, .int .i64 hi] w (Gv St w (rng C lo hi)) := by
  have hmf : ∀ (fn : Fn) (first cap : Array Value) (w : World), (Instr.makeFunc fn first cap).run Tryd.prog w = .ok (.func fn first cap) w := fun _ _ _ _ => rfl
  have hb0 := (Below.refl w.heap.size w).alloc (Nat.le_refl _) (.cells #[.int .i64 C.n, .slice A n c, .slice B m d] 27)
  have hb1 := hb0.alloc hb0.size (.cells #[.int .i64 lo] 3)
  have hb2 := hb1.alloc hb1.size (.cells #[.int .i64 hi] 3)
  have hb3 := hb2.alloc hb2.size (.cells #[.slice none 0 0] 42)
  have hw : ∃ wa, wa = (((w.alloc (.cells #[.int .i64 C.n, .slice A n c, .slice B m d] 27)).alloc (.cells #[.int .i64 lo] 3)).alloc (.cells #[.int .i64 hi] 3)).alloc (.cells #[.slice none 0 0] 42) := ⟨_, rfl⟩
  obtain ⟨wa, hwa⟩ := hw
  have x0 : Cb wa w.heap.size C.n A n c B m d := by rw [hwa]; exact ⟨(((Cb.new w C.n A n c B m d).bx.alloc _).alloc _).alloc _⟩
  have x1 : Wd.Var wa (w.heap.size + 1) 3 (.int .i64 lo) := by
    have := Wd.Var.new (w.alloc (.cells #[.int .i64 C.n, .slice A n c, .slice B m d] 27)) 3 (.int .i64 lo)
    rw [World.size_alloc] at this
    rw [hwa]
    exact (this.alloc _).alloc _
  have x2 : Wd.Var wa (w.heap.size + 2) 3 (.int .i64 hi) := by
    have := Wd.Var.new ((w.alloc (.cells #[.int .i64 C.n, .slice A n c, .slice B m d] 27)).alloc (.cells #[.int .i64 lo] 3)) 3 (.int .i64 hi)
    rw [World.size_alloc, World.size_alloc] at this
    rw [hwa]
    exact this.alloc _
  have x3 : Wd.Var wa (w.heap.size + 3) 42 (.slice none 0 0) := by
    have := Wd.Var.new (((w.alloc (.cells #[.int .i64 C.n, .slice A n c, .slice B m d] 27)).alloc (.cells #[.int .i64 lo] 3)).alloc (.cells #[.int .i64 hi] 3)) 42 (.slice none 0 0)
    rw [World.size_alloc, World.size_alloc, World.size_alloc] at this
    rw [hwa]
    exact this
  rw [← hwa] at hb3
  have C1 := Lib.hid (unpack_any A n c B m d C _ (h.below hb3) hn hm)
  have Hb3 := Lib.hid hb3
  have Hwa := Lib.hid hwa
  have e0 := Lib.hid fun (q : ¬ Valid C) => rng_no q lo hi
  have e1 := Lib.hid (show whr (fun x => decide (lo ≤ x ∧ x < hi)) (nums C) (nums C).length = rng C lo hi from rfl)
  have e2 := Lib.hid (of_rng C lo hi)
  have H4 := Lib.hid (nums_4096 C)
  obtain ⟨N, hN⟩ : ∃ N, N = C.n := ⟨_, rfl⟩
  rw [← hN] at x0 C1 hwa Hwa ⊢
  obtain ⟨r, hr⟩ : ∃ r, r = tr (Valid C) := ⟨_, rfl⟩
  rw [← hr] at C1
  have Hr := Lib.hid hr
  have hsz : w.heap.size + 3 < wa.heap.size := x3.lt
  have c0 := x0.c0
  have c1 := x0.c1
  have c2 := x0.c2
  clear h hb0 hb1 hb2 hb3 hN hr hwa
  go_enter Tryd.func17, Tryd.ntmps17
  go_wp2_with fail
  rw [← Hwa.out]
  go_wp2_with fail
  refine C1.out.mono ?_
  rintro e w1 ⟨P, p, q, rfl, hSl, hB1⟩
  have y1 := var_below x1 (by omega) hB1
  have y2 := var_below x2 (by omega) hB1
  have y3 := var_below x3 (by omega) hB1
  have hb1 := Hb3.out.trans (hB1.mono Hb3.out.size)
  have hl1 := y3.lt
  have HB1 := Lib.hid hb1
  clear c0 c1 c2 x0 x1 x2 x3 hB1 C1 hb1
  cases r with
  | false =>
    have e3 := e0.out (fun q => by have := Hr.out; rw [tr_yes q] at this; cases this)
    have E3 := Lib.hid e3
    have c3 := y3.cell
    have f3 := y3.free
    have c4 := (Wd.Var.set (u := .slice none 0 0) y3).cell
    clear e3
    go_wp2_with fail
    (try simp only [Exit.inBlock, Exit.then])
    refine bodyPost_ret (v := .agg #[.slice none 0 0]) ?_ rfl ⟨none, 0, 0, rfl, by rw [E3.out]; exact ⟨[], Wd.Sl.none_ _ _, Bw.wo_nil, Bw.tr_nil, Bs.lstW_nil.symm⟩, HB1.out.setCell (by show w.heap.size ≤ w.heap.size + 3; omega) _⟩
    rw [Vc.res_cell1 rfl]; go_simp
  | true =>
    have hpl := hSl.len
    have Cr := Lib.hid (rowsWhere_any 42 #[.pointer (some ⟨w.heap.size + 1, 0, none⟩), .pointer (some ⟨w.heap.size + 2, 0, none⟩)] (fun x => decide (lo ≤ x ∧ x < hi)) P p q (nums C) w1 hSl (by have := H4.out; omega) goes_range (fun x w' hb => inRange_any _ _ lo hi x w' (var_below y1 (by omega) hb) (var_below y2 (by omega) hb)))
    rw [hpl, e1.out, e2.out, ← hpl] at Cr
    clear hpl hSl
    go_wp2_with fail
    refine Cr.out.mono ?_
    rintro e w7 ⟨A7, n7, c7, rfl, hS7, hB7⟩
    have z3 := var_below y3 hl1 hB7
    have c1 := z3.cell
    have f1 := z3.free
    have HS7 := Lib.hid (St.other hS7 (u := .slice A7 n7 c7) c1)
    have HB7 := Lib.hid (HB1.out.trans (hB7.mono HB1.out.size))
    have c2 := (Wd.Var.set (u := .slice A7 n7 c7) z3).cell
    clear hS7 hB7
    go_wp2_with fail
    (try simp only [Exit.inBlock, Exit.then])
    refine bodyPost_ret (v := .agg #[.slice A7 n7 c7]) ?_ rfl ⟨_, _, _, rfl, HS7.out, HB7.out.setCell (by show w.heap.size ≤ w.heap.size + 3; omega) _⟩
    rw [Vc.res_cell1 rfl]; go_simp
end Cx
end Go.Proofs.YtnhgijlhnamolaaDoor
namespace Go.Proofs.YtnhgijlhnamolaaDoor
set_option maxRecDepth 20000
open Go.RowKit
namespace Nc

set_option maxHeartbeats 400000 in
theorem same_any (A B : Option Addr) (n m c d : Nat) (xs ys : List Int) (w : World) (ha : Wd.Sl w .u8 A n c xs) (hb : Wd.Sl w .u8 B m d ys) :
    Calls Tryd.prog 24 #[.slice A n c, .slice B m d] w fun e w' => e = .returned (.bool (decide (xs = ys))) ∧ ∃ q, w' = w.drewN q := by
  obtain ⟨rfl, hc, hx, hA, hr⟩ := ha
  obtain ⟨rfl, hd, hy, hB, hs⟩ := hb
  unfold maxLen at hx hy
  by_cases hl : xs.length = ys.length
  · have hne : ((xs.length : Int) != (ys.length : Int)) = false := by rw [hl]; simp
    have Hl := Lib.hid hl
    clear hl
    rcases Nat.eq_zero_or_pos xs.length with h0 | h0
    · have hx0 : xs = [] := List.eq_nil_of_length_eq_zero h0
      have hy0 : ys = [] := List.eq_nil_of_length_eq_zero (by rw [← Hl.out]; exact h0)
      subst hx0
      subst hy0
      go_enter Tryd.func24, Tryd.ntmps24
      go_wp2_with fail
      refine wp_loop_rounds 1 ?_
      rw [rounds_succ]
      go_wp2_with fail
      go_ret
      exact ⟨rfl, 0, rfl⟩
    · obtain ⟨a1, o1, rfl, _, hcx⟩ := hr.some_ h0
      obtain ⟨a2, o2, rfl, _, hcy⟩ := hs.some_ (by rw [← Hl.out]; exact h0)
      clear hr hs hA hB
      have hle1 : xs.length ≤ ys.length := by rw [Hl.out]; exact Nat.le_refl _
      have hle2 : ys.length ≤ xs.length := by rw [Hl.out]; exact Nat.le_refl _
      go_enter Tryd.func24, Tryd.ntmps24
      go_wp2_with fail
      go_loopw [5] (fun i wr => ∃ (k q : Nat), i = .int .i64 k ∧ k ≤ xs.length ∧ wr = w.drewN q ∧ xs.take k = ys.take k) (fun i _ => xs.length - (intOf i).toNat)
      case atStart => exact ⟨0, 0, rfl, Nat.zero_le _, rfl, rfl⟩
      case round =>
        obtain ⟨k, q, rfl, hk, rfl, ht⟩ := hrel
        have Ht := Lib.hid ht
        clear ht
        by_cases hlt : k < xs.length
        · have hlt2 : k < ys.length := by omega
          have c1 := hcx k hlt
          have c2 := hcy k hlt2
          obtain ⟨x, hx'⟩ : ∃ x, x = xs.getD k 0 := ⟨_, rfl⟩
          obtain ⟨y, hy'⟩ : ∃ y, y = ys.getD k 0 := ⟨_, rfl⟩
          rw [← hx'] at c1
          rw [← hy'] at c2
          have Hx := Lib.hid hx'
          have Hy := Lib.hid hy'
          clear hx' hy' hcx hcy
          have i1 : (k : Int) < (xs.length : Int) := by omega
          have i2 : (k : Int) < (ys.length : Int) := by omega
          by_cases hxy : x = y
          · have hbq : (x != y) = false := by rw [hxy]; simp
            have Hxy := Lib.hid hxy
            clear hxy
            go_wp2_with fail
            go_quiet (fail)
            go_wp2_with fail
            go_roundw
            case rel =>
              refine ⟨k + 1, _, by go_num, by omega, rfl, ?_⟩
              rw [List.take_succ_eq_append_getElem hlt, List.take_succ_eq_append_getElem hlt2, Ht.out]
              have e1 := Hx.out
              have e2 := Hy.out
              simp only [List.getD, List.getElem?_eq_getElem hlt, List.getElem?_eq_getElem hlt2, Option.getD_some] at e1 e2
              rw [← e1, ← e2, Hxy.out]
            case measure => simp [intOf]; omega
          · have hbq : (x != y) = true := by rw [bne_iff_ne]; exact hxy
            have Hxy := Lib.hid hxy
            clear hxy
            go_wp2_with fail
            go_quiet (fail)
            go_wp2_with fail
            go_ret
            refine ⟨?_, _, World.drewN_drewN _ _ _⟩
            rw [decide_eq_false (fun e => Hxy.out (by rw [Hx.out, Hy.out, e]))]
            rfl
        · go_wp2_with fail
          go_ret
          refine ⟨?_, _, rfl⟩
          have := Ht.out
          rw [List.take_of_length_le (by omega), List.take_of_length_le (by omega)] at this
          rw [decide_eq_true this]
          rfl
  · have hne : ((xs.length : Int) != (ys.length : Int)) = true := by rw [bne_iff_ne]; omega
    go_enter Tryd.func24, Tryd.ntmps24
    go_wp2_with fail
    go_ret
    refine ⟨?_, 0, rfl⟩
    rw [decide_eq_false (fun e => hl (by rw [e]))]
    rfl
theorem same_yes (A B : Option Addr) (n m c d : Nat) (xs ys : List Int) (w : World) (ha : Wd.Sl w .u8 A n c xs) (hb : Wd.Sl w .u8 B m d ys) (h : xs = ys) :
    Calls Tryd.prog 24 #[.slice A n c, .slice B m d] w fun e w' => e = .returned (.bool true) ∧ Below w.heap.size w w' :=
  (same_any A B n m c d xs ys w ha hb).mono fun _ _ ⟨he, q, hq⟩ => ⟨by rw [he, decide_eq_true h], by rw [hq]; exact Wd.below_drewN (Below.refl _ _) q⟩
end Nc
end Go.Proofs.YtnhgijlhnamolaaDoor
