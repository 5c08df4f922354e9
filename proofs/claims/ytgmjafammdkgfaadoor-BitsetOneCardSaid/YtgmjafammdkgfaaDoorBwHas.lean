/- Package bitset: Has, Without. -/
import Derived.Test.YtgmjafammdkgfaaDoorBwOf
import Derived.StillTailTactics
import Derived.BigQuiet
namespace Go.Proofs.YtgmjafammdkgfaaDoor
set_option maxRecDepth 20000
open Go.RowKit
namespace Bw
open Bs Bx Bi
set_option maxHeartbeats 4000000 in
theorem has_any (A : Option Addr) (n c : Nat) (X : List Int) (i : Int) (w : World) (hS : St w A n c X) (hi : I64 i) :
    Calls Tryd.prog 26 #[.agg #[.slice A n c], .int .i64 i] w fun e w' => e = .returned (.bool (decide (i ∈ X))) ∧ Below w.heap.size w w' := by
  obtain ⟨L, hS, hw, ht, rfl⟩ := hS
  have hb0 := (Below.refl w.heap.size w).alloc (Nat.le_refl _) (.cells #[.slice A n c] 27)
  have c0 := box1 w A n c
  have hcap := hS.cap
  have hmx := hS.max
  unfold maxLen at hmx
  have hn : n = L.length := by rw [hS.len, nat_len]
  have hn1 : n ≤ 1024 := by rw [hn]; exact hw.1
  have HS := Lib.hid (hS.below hb0)
  have Hn := Lib.hid hn
  have Hw := Lib.hid hw
  have Hb := Lib.hid hb0
  obtain ⟨i0, i1⟩ := hi
  clear hS hn hw ht hb0
  obtain ⟨r, hr⟩ : ∃ r, r = decide (i ∈ lstW L) := ⟨_, rfl⟩
  rw [← hr]
  have Hr := Lib.hid hr
  clear hr
  by_cases h0 : 0 ≤ i
  case neg =>
    have e := Lib.hid (show r = false by rw [Hr.out, decide_eq_false]; intro q; exact h0 ((mem_lstW L i).1 q).1)
    have hd : decide (0 ≤ i) = false := decide_eq_false h0
    go_enter Tryd.func26, Tryd.ntmps26
    go_wp2_with fail
    go_quiet (fail)
    go_wp2_with fail
    go_ret
    exact ⟨by rw [e.out]; rfl, Wd.below_drewN Hb.out _⟩
  obtain ⟨k, hik⟩ : ∃ k : Nat, i = (k : Int) := ⟨i.toNat, by omega⟩
  obtain ⟨q, hq⟩ : ∃ q, q = k / 64 := ⟨_, rfl⟩
  have eq1 : i / 64 = (q : Int) := by omega
  have et : IntKind.i64.wrap (i.tdiv 64) = (q : Int) := by rw [Int.tdiv_eq_ediv_of_nonneg h0, eq1, IntKind.wrap_i64]; omega
  have hd : decide (0 ≤ i) = true := decide_eq_true h0
  have hq0 : (0 : Int) ≤ (q : Int) := by omega
  by_cases hqn : q < n
  case neg =>
    have e := Lib.hid (show r = false by
      rw [Hr.out, decide_eq_false]
      rw [hik]
      exact mem_out (by rw [← hq, ← Hn.out]; omega))
    have hd2 : decide (q < n) = false := decide_eq_false hqn
    clear hq hqn hik
    go_enter Tryd.func26, Tryd.ntmps26
    go_wp2_with fail
    go_quiet (fail)
    go_wp2_with fail
    go_ret
    exact ⟨by rw [e.out]; rfl, Wd.below_drewN Hb.out _⟩
  have hq1 : q < 1024 := by omega
  have hk : k < 65536 := by omega
  have Ck := Lib.hid fun w => bit_any k hk w
  rw [← hik] at Ck
  obtain ⟨y, hy⟩ : ∃ y, y = 2 ^ (k % 64) := ⟨_, rfl⟩
  rw [← hy] at Ck
  have Cq := Lib.hid fun w => ((Ck.out w).mono fun _ _ h => ⟨h.1, 0, h.2⟩ : Calls Tryd.prog 33 #[.int .i64 i] w fun e w' => e = .returned (.int .u64 (y : Int)) ∧ ∃ n, w' = w.drewN n)
  have hy1 : y < 18446744073709551616 := by rw [hy]; exact pow_lt k
  have hql : q < L.length := by rw [← Hn.out]; exact hqn
  have HA := Lib.hid (u64_and_nat (L.getD q 0) y (Hw.out.2 q) hy1)
  have Hm := Lib.hid (mem_bit L k)
  rw [← hq, ← hy, ← hik] at Hm
  obtain ⟨b, o, hA, hb, hc⟩ := HS.out.rd q (by rw [nat_len]; exact hql)
  subst hA
  rw [nat_getD] at hc
  obtain ⟨x, hx⟩ : ∃ x, x = L.getD q 0 := ⟨_, rfl⟩
  rw [← hx] at hc HA Hm
  obtain ⟨z, hz⟩ : ∃ z, z = x &&& y := ⟨_, rfl⟩
  rw [← hz] at HA Hm
  have ha : bits .and .u64 (x : Int) (y : Int) = (z : Int) := HA.out
  have hd2 : decide ((q : Int) < (n : Int)) = true := decide_eq_true (by omega)
  have hqi : (q : Int) < (n : Int) := by omega
  have hzr : ((z : Int) != 0) = r := by
    rw [Hr.out]
    by_cases q0 : z = 0
    · rw [decide_eq_false fun h => Hm.out.1 h q0, q0]; rfl
    · rw [decide_eq_true (Hm.out.2 q0)]
      simpa using q0
  clear hq hqn hik hy hx hz hy1 hk hql HA
  go_enter Tryd.func26, Tryd.ntmps26
  go_wp2_with fail
  go_quiet (first | (go_at_call 33; refine Calls.quiet_of (Cq.out _)))
  go_wp2_with fail
  go_ret
  exact ⟨rfl, Wd.below_drewN Hb.out _⟩
/-- A variable of a struct is no word. -/
theorem sl_other {w : World} {A B : Option Addr} {n c m d : Nat} {ys : List Int} {p : Addr} {u : Value} (h : Wd.Sl w .u64 A n c ys) (hp : w.cell? p = some (.slice B m d)) : Wd.Sl (w.setCell p u) .u64 A n c ys :=
  ⟨h.len, h.cap, h.max, h.nil, fun j hj => by
    obtain ⟨b, o, e, hlt, hc⟩ := h.rd j hj
    exact ⟨b, o, e, by simpa using hlt, (World.cell?_setCell_other _ _ _ _ (by rintro rfl; rw [hc] at hp; cases hp)).trans hc⟩⟩
theorem St.other {w : World} {A B : Option Addr} {n c m d : Nat} {X : List Int} {p : Addr} {u : Value} (h : St w A n c X) (hp : w.cell? p = some (.slice B m d)) : St (w.setCell p u) A n c X := by
  obtain ⟨L, a, b, c, e⟩ := h
  exact ⟨L, sl_other a hp, b, c, e⟩
theorem not_mem_out {L : List Nat} {i : Int} (h : ¬ 0 ≤ i) : i ∉ lstW L := fun q => h ((mem_lstW L i).1 q).1
set_option maxHeartbeats 8000000 in
theorem without_any (A : Option Addr) (n c : Nat) (X : List Int) (i : Int) (w : World) (hX : St w A n c X) (hi : I64 i) :
    Calls Tryd.prog 15 #[.agg #[.slice A n c], .int .i64 i] w (Gv St w (withoutL X i)) := by
  obtain ⟨L, hS, hw, ht, rfl⟩ := id hX
  have hb0 := (Below.refl w.heap.size w).alloc (Nat.le_refl _) (.cells #[.slice A n c] 27)
  have hb1 := hb0.alloc (by simp) (.cells #[.slice none 0 0] 27)
  have hsz : ((w.alloc (.cells #[.slice A n c] 27)).alloc (.cells #[.slice none 0 0] 27)).heap.size = w.heap.size + 1 + 1 := by simp
  have x0 : Wd.Var ((w.alloc (.cells #[.slice A n c] 27)).alloc (.cells #[.slice none 0 0] 27)) w.heap.size 27 (.slice A n c) := (Wd.Var.new w _ _).alloc _
  have x1 : Wd.Var ((w.alloc (.cells #[.slice A n c] 27)).alloc (.cells #[.slice none 0 0] 27)) (w.heap.size + 1) 27 (.slice none 0 0) := by
    have := Wd.Var.new (w.alloc (.cells #[.slice A n c] 27)) 27 (.slice none 0 0)
    rwa [World.size_alloc] at this
  have C1 := Lib.hid (clone_any A n c L _ (hS.below hb1) hw.1)
  rw [hsz] at C1
  have Hs := Lib.hid fun w' (hb : Below w.heap.size w w') => has_any A n c (lstW L) i w' (by obtain ⟨L', a, b, c, e⟩ := hX; exact ⟨L', a.below hb, b, c, e⟩) hi
  have Hw := Lib.hid hw
  have Hb1 := Lib.hid hb1
  have Hn := Lib.hid (show n = L.length by rw [hS.len, nat_len])
  obtain ⟨i0, i1⟩ := hi
  clear hS hw ht hb0 hb1 hX
  obtain ⟨r, hr⟩ : ∃ r, r = decide (i ∈ lstW L) := ⟨_, rfl⟩
  rw [← hr] at Hs
  have Hr := Lib.hid hr
  clear hr
  cases r with
  | false =>
    have hni := Lib.hid (of_decide_eq_false Hr.out.symm)
    rw [without_none hni.out]
    have Tr := Lib.hid fun A n c w h => trimmed_any A n c L w h Hw.out
    go_enter Tryd.func15, Tryd.ntmps15
    go_wp2_with fail
    refine C1.out.mono ?_
    rintro e w2 ⟨v2, rfl, hO2, hB2⟩
    have hb2 := Hb1.out.trans (hB2.mono (by omega))
    have y0 : Wd.Var w2 w.heap.size 27 (.slice A n c) := (hB2.block _ (by omega)).trans x0
    have cy0 := y0.cell
    go_wp2_with fail
    refine (Hs.out w2 hb2).mono ?_
    rintro e w3 ⟨rfl, hB3⟩
    have hO3 := hO2.below hB3
    have hb3 := hb2.trans (hB3.mono hb2.size)
    obtain ⟨A3, n3, c3, rfl, hS3⟩ := hO3.sl
    have C3 := Lib.hid (Tr.out A3 n3 c3 w3 hS3)
    have hs3 := Nat.le_trans hB2.size hB3.size
    have y1 : Wd.Var w3 (w.heap.size + 1) 27 (.slice none 0 0) := (hB3.block _ (by have := hB2.size; omega)).trans ((hB2.block _ (by omega)).trans x1)
    clear hS3 hO3 hO2 hB2 hB3 hb2 x0 x1 y0 cy0
    go_wp2_with fail
    refine C3.out.mono ?_
    rintro e w4 ⟨A4, n4, c4, rfl, hS4, hB4⟩
    have z1 : Wd.Var w4 (w.heap.size + 1) 27 (.slice none 0 0) := (hB4.block _ y1.lt).trans y1
    have cz := z1.cell
    have fz := z1.free
    have cz2 := (Wd.Var.set (u := .slice A4 n4 c4) z1).cell
    have Hb4 := Lib.hid (hb3.trans (hB4.mono hb3.size))
    clear hB4 hb3 y1
    go_wp2_with fail
    (try simp only [Exit.inBlock, Exit.then])
    refine bodyPost_ret (v := .agg #[.slice A4 n4 c4]) ?_ rfl ⟨_, _, _, rfl, ?_, ?_⟩
    · rw [res_cell1 rfl]; go_simp
    · exact hS4.other cz
    · exact Hb4.out.setCell (by show w.heap.size ≤ w.heap.size + 1; omega) _
  | true =>
    have hmi := Lib.hid (of_decide_eq_true Hr.out.symm)
    have h0 := ((mem_lstW L i).1 hmi.out).1
    have h1 : i < 65536 := by have := (lstW_ok Hw.out.1).2 i hmi.out; exact this.2
    obtain ⟨k, hik⟩ : ∃ k : Nat, i = (k : Int) := ⟨i.toNat, by omega⟩
    have hk : k < 65536 := by omega
    have hqL : k / 64 < L.length := by
      by_cases q : k / 64 < L.length
      · exact q
      · exact absurd (hik ▸ hmi.out) (mem_out (by omega))
    have Ck := Lib.hid fun w => bit_any k hk w
    rw [← hik] at Ck
    have hex := exc_lst Hw.out hqL
    rw [← hik] at hex
    have Tr := Lib.hid fun A n c w h => trimmed_any A n c (excL L k) w h (exc_wo Hw.out)
    rw [hex] at Tr
    obtain ⟨y, hy⟩ : ∃ y, y = 2 ^ (k % 64) := ⟨_, rfl⟩
    rw [← hy] at Ck
    have hy1 : y < 18446744073709551616 := by rw [hy]; exact pow_lt k
    obtain ⟨q, hq⟩ : ∃ q, q = k / 64 := ⟨_, rfl⟩
    have eq1 : i / 64 = (q : Int) := by omega
    have et : IntKind.i64.wrap (i.tdiv 64) = (q : Int) := by rw [Int.tdiv_eq_ediv_of_nonneg h0, eq1, IntKind.wrap_i64]; omega
    have hq0 : (0 : Int) ≤ (q : Int) := by omega
    have hq1 : q < 1024 := by omega
    have Hin := Lib.hid (show excL L k = L.set q (L.getD q 0 &&& (18446744073709551615 - y)) by rw [hq, hy]; rfl)
    have Hor := Lib.hid (u64_andNot_nat (L.getD q 0) y (Hw.out.2 q) hy1)
    rw [← hq] at hqL
    have HqL := Lib.hid hqL
    clear hq hy hk hy1 hik hex hqL
    go_enter Tryd.func15, Tryd.ntmps15
    go_wp2_with fail
    refine C1.out.mono ?_
    rintro e w2 ⟨v2, rfl, hO2, hB2⟩
    have hb2 := Hb1.out.trans (hB2.mono (by omega))
    have y0 : Wd.Var w2 w.heap.size 27 (.slice A n c) := (hB2.block _ (by omega)).trans x0
    have cy0 := y0.cell
    go_wp2_with fail
    refine (Hs.out w2 hb2).mono ?_
    rintro e w3 ⟨rfl, hB3⟩
    have hO3 := hO2.below hB3
    have hb3 := hb2.trans (hB3.mono hb2.size)
    obtain ⟨g, c3, rfl, hBg, hgw, hnc, hcm⟩ := hO3.shape (by have := HqL.out; omega)
    obtain ⟨hc, hf⟩ := hO3.cell rfl q HqL.out
    obtain ⟨x, hx⟩ : ∃ x, x = L.getD q 0 := ⟨_, rfl⟩
    rw [← hx] at hc
    have Hx := Lib.hid hx
    obtain ⟨N, hN⟩ : ∃ N, N = L.length := ⟨_, rfl⟩
    have hqN : (q : Int) < (N : Int) := by have := HqL.out; omega
    have HO3 := Lib.hid hO3
    rw [← hN] at hnc ⊢
    have HN := Lib.hid hN
    unfold maxLen at hcm
    have y1 : Wd.Var w3 (w.heap.size + 1) 27 (.slice none 0 0) := (hB3.block _ (by have := hB2.size; omega)).trans ((hB2.block _ (by omega)).trans x1)
    have Hgw := Lib.hid (show w.heap.size + 1 + 1 ≤ g from hBg)
    clear hO3 hO2 hB2 hB3 hb2 x0 x1 y0 cy0 hx hN
    go_wp2_with fail
    refine wp_region_still_tail 9 (by kernel_rfl) (by kernel_rfl) ?_
    simp only [List.take_succ_cons, List.take_zero, List.drop_succ_cons, List.drop_zero]
    repeat (first | still_call (Ck.out _) | still_step)
    try refine wpStill_nil ?_
    change wpList _ _ _ _ _ w3.drew
    go_wp2_with fail
    have hO4 := Ow.set (w := w3) (n := N) (by rw [HN.out]; exact HO3.out) HN.out q (L.getD q 0 &&& (18446744073709551615 - y))
    rw [← Hin.out] at hO4
    obtain ⟨A5, n5, c5, e5, hS5⟩ := hO4.sl
    cases e5
    have C5 := Lib.hid (Tr.out _ _ _ _ (hS5.below (Below.refl _ _).drew))
    have y2 := (y1.other (a := ⟨g, q, none⟩) (u := .int .u64 (((L.getD q 0 &&& (18446744073709551615 - y) : Nat)) : Int)) (by have := Hgw.out; show w.heap.size + 1 ≠ g; omega))
    have hb4 := hb3.setCell (p := ⟨g, q, none⟩) (by have := Hgw.out; show w.heap.size ≤ g; omega) (.int .u64 (((L.getD q 0 &&& (18446744073709551615 - y) : Nat)) : Int))
    rw [Hx.out, Hor.out]
    generalize w3.setCell ⟨g, q, none⟩ (.int .u64 (((L.getD q 0 &&& (18446744073709551615 - y) : Nat)) : Int)) = w5 at *
    refine C5.out.mono ?_
    rintro e w4 ⟨A4, n4, c4, rfl, hS4, hB4⟩
    have hB4' := Wd.of_drew hB4
    have z1 : Wd.Var w4 (w.heap.size + 1) 27 (.slice none 0 0) := (hB4'.block _ y2.lt).trans y2
    have cz := z1.cell
    have fz := z1.free
    have cz2 := (Wd.Var.set (u := .slice A4 n4 c4) z1).cell
    have Hb4 := Lib.hid (hb4.trans (hB4'.mono hb4.size))
    clear hB4 hB4' hb4 y2 hb3 y1 hS5 hO4 hc hf
    go_wp2_with fail
    (try simp only [Exit.inBlock, Exit.then])
    refine bodyPost_ret (v := .agg #[.slice A4 n4 c4]) ?_ rfl ⟨_, _, _, rfl, ?_, ?_⟩
    · rw [res_cell1 rfl]; go_simp
    · exact hS4.other cz
    · exact Hb4.out.setCell (by show w.heap.size ≤ w.heap.size + 1; omega) _
end Bw
end Go.Proofs.YtgmjafammdkgfaaDoor
