/- Package bitset: Of, With, Has, Without. -/
import Derived.Test.YtgmjafammdkgfaaDoorBwTrim
import Derived.Test.YtgmjafammdkgfaaDoorBwInc
namespace Go.Proofs.YtgmjafammdkgfaaDoor
set_option maxRecDepth 20000
open Go.RowKit
namespace Bw
open Bs Bx Bi
theorem st_own {w : World} {A : Option Addr} {n c : Nat} {L : List Nat} {B : Nat} (h : Ow w B (.slice A n c) L) (hw : Wo L) (ht : Tr L) (o : Obj) : St (w.alloc o) A n c (lstW L) := by
  obtain ⟨A', n', c', e, hS⟩ := h.sl
  cases e
  exact ⟨L, hS.below ((Below.refl _ _).alloc (Nat.le_refl _) o), hw, ht, rfl⟩
theorem st_at {w : World} {A : Option Addr} {n c : Nat} {L : List Nat} {B : Nat} (h : Ow w B (.slice A n c) L) (hw : Wo L) (ht : Tr L) : St w A n c (lstW L) := by
  obtain ⟨A', n', c', e, hS⟩ := h.sl
  cases e
  exact ⟨L, hS, hw, ht, rfl⟩
theorem Ow.other {w : World} {B b : Nat} {v u : Value} {L : List Nat} (h : Ow w B v L) (hb : b < B) : Ow (w.setCell ⟨b, 0, none⟩ u) B v L := by
  have hg : w.grownBy (w.setCell ⟨b, 0, none⟩ u) (some b) := ⟨rfl, rfl, rfl, by simp, fun k _ hk => heap_setCell_other w _ k u (fun e => hk (by rw [e]))⟩
  refine World.ownsRow.kept h hg ?_
  cases hv : v.ownBlock with
  | none => exact .inl rfl
  | some g => exact .inr fun e => by have := (World.ownsRow.lt h g hv).1; cases e; omega
theorem take_next (l : List Int) (k : Nat) (h : k < l.length) : l.take (k + 1) = l.take k ++ [l.getD k 0] := by
  rw [List.take_succ_eq_append_getElem h]
  simp [List.getD, h]
set_option maxHeartbeats 4000000 in
theorem of_any (A : Option Addr) (n c : Nat) (l : List Int) (w : World) (hS : Wd.Sl w .i64 A n c l) (hn : n ≤ 100) :
    Calls Tryd.prog 9 #[.slice A n c] w (Gv St w (ofL l)) := by
  have hb0 := (Below.refl w.heap.size w).alloc (Nat.le_refl _) (.cells #[.slice none 0 0] 27)
  have x0 : Wd.Var (w.alloc (.cells #[.slice none 0 0] 27)) w.heap.size 27 (.slice none 0 0) := Wd.Var.new _ _ _
  have hsz : (w.alloc (.cells #[.slice none 0 0] 27)).heap.size = w.heap.size + 1 := by simp
  have hcap := hS.cap
  have hmx := hS.max
  unfold maxLen at hmx
  have HS := Lib.hid hS
  have Hl := Lib.hid hS.len
  have Inc := Lib.hid fun B v L i w h hw hB => include_any B v L i w h hw hB
  have hI0 : ∃ v, Value.slice none 0 0 = v ∧ Ow (w.alloc (.cells #[.slice none 0 0] 27)) (w.heap.size + 1) v [] := ⟨_, rfl, Ow.nil _ _⟩
  clear hS
  go_enter Tryd.func9, Tryd.ntmps9
  go_wp2_with fail
  go_loopw [3, 8] (fun v j wr => ∃ k : Nat, j = .int .i64 k ∧ k ≤ n ∧ Ow wr (w.heap.size + 1) v ((l.take k).foldl incI []) ∧ Below (w.heap.size + 1) (w.alloc (.cells #[.slice none 0 0] 27)) wr) (fun _ j _ => n - (intOf j).toNat)
  case atStart => exact ⟨0, rfl, Nat.zero_le _, by obtain ⟨v, rfl, h⟩ := hI0; exact h, Below.refl _ _⟩
  case round =>
    obtain ⟨k, rfl, hk, hO, hB⟩ := hrel
    by_cases hlt : k < n
    · have hkl : k < l.length := by rw [← Hl.out]; exact hlt
      have hS2 := HS.out.below (hb0.trans (hB.mono (by omega)))
      obtain ⟨b, o, hA, hb, hc⟩ := hS2.rd k hkl
      subst hA
      have hkI : (k : Int) < n := by omega
      have Ht := Lib.hid (take_next l k hkl)
      obtain ⟨x, hx⟩ : ∃ x, x = l.getD k 0 := ⟨_, rfl⟩
      rw [← hx] at hc
      have Hx := Lib.hid hx
      have C := Lib.hid (Inc.out (w.heap.size + 1) _ _ x _ hO (fold_wo _ _ wo_nil) (by rw [← hsz]; exact hB.size))
      have HO := Lib.hid hO
      clear hx hkl hS2 hO
      go_wp2_with fail
      refine C.out.mono ?_
      rintro e w2 ⟨v2, rfl, hO2, hB2⟩
      go_wp2_with fail
      go_roundw
      case rel => exact ⟨k + 1, by go_num, by omega, by rw [Ht.out, List.foldl_append, ← Hx.out]; exact hO2, hB.trans hB2⟩
      case measure => simp [intOf]; omega
    · have hkI : ¬ (k : Int) < n := by omega
      have x1 : Wd.Var _ w.heap.size 27 (.slice none 0 0) := (hB.block w.heap.size (by omega)).trans x0
      have c1 := x1.cell
      have f1 := x1.free
      rw [List.take_of_length_le (by rw [← Hl.out]; omega)] at hO
      obtain ⟨A1, n1, c1, rfl, -⟩ := hO.sl
      have HO := Lib.hid hO
      have HB := Lib.hid hB
      clear hO hB x0
      go_wp2_with fail
      have c2 := (Wd.Var.set (u := .slice A1 n1 c1) x1).cell
      (try simp only [Exit.inBlock, Exit.then])
      refine bodyPost_ret (v := .agg #[.slice A1 n1 c1]) ?_ rfl ⟨_, _, _, rfl, ?_, ?_⟩
      · rw [res_cell1 rfl]; go_simp
      · rw [← of_lst]
        exact st_at (HO.out.other (by omega)) (fold_wo _ _ wo_nil) (fold_tr _ _ tr_nil)
      · exact (hb0.trans (HB.out.mono (by omega))).setCell (Nat.le_refl _) _
set_option maxHeartbeats 4000000 in
theorem with_any (A : Option Addr) (n c : Nat) (X : List Int) (i : Int) (w : World) (hS : St w A n c X) :
    Calls Tryd.prog 13 #[.agg #[.slice A n c], .int .i64 i] w (Gv St w (withL X i)) := by
  obtain ⟨L, hS, hw, ht, rfl⟩ := hS
  have hb0 := (Below.refl w.heap.size w).alloc (Nat.le_refl _) (.cells #[.slice A n c] 27)
  have hb1 := hb0.alloc (by simp) (.cells #[.slice none 0 0] 27)
  have hsz : ((w.alloc (.cells #[.slice A n c] 27)).alloc (.cells #[.slice none 0 0] 27)).heap.size = w.heap.size + 1 + 1 := by simp
  have x1 : Wd.Var ((w.alloc (.cells #[.slice A n c] 27)).alloc (.cells #[.slice none 0 0] 27)) (w.heap.size + 1) 27 (.slice none 0 0) := by
    have := Wd.Var.new (w.alloc (.cells #[.slice A n c] 27)) 27 (.slice none 0 0)
    rwa [World.size_alloc] at this
  have C1 := Lib.hid (clone_any A n c L _ (hS.below hb1) hw.1)
  rw [hsz] at C1
  have Inc := Lib.hid fun v w' (h : Ow w' (w.heap.size + 1 + 1) v L) hB => include_any (w.heap.size + 1 + 1) v L i w' h hw hB
  have Hw := Lib.hid hw
  have Ht := Lib.hid ht
  have Hb1 := Lib.hid hb1
  clear hS hw ht hb0 hb1
  go_enter Tryd.func13, Tryd.ntmps13
  go_wp2_with fail
  refine C1.out.mono ?_
  rintro e w2 ⟨v2, rfl, hO2, hB2⟩
  have C2 := Lib.hid (Inc.out v2 w2 hO2 (by rw [← hsz]; exact hB2.size))
  go_wp2_with fail
  refine C2.out.mono ?_
  rintro e w3 ⟨v3, rfl, hO3, hB3⟩
  obtain ⟨A3, n3, c3, rfl, -⟩ := hO3.sl
  have hB4 := hB2.trans hB3
  have x3 : Wd.Var w3 (w.heap.size + 1) 27 (.slice none 0 0) := (hB4.block (w.heap.size + 1) (by omega)).trans x1
  have c1 := x3.cell
  have f1 := x3.free
  have c2 := (Wd.Var.set (u := .slice A3 n3 c3) x3).cell
  have HO := Lib.hid hO3
  have HB := Lib.hid hB4
  clear hO3 hB4 hB2 hB3 hO2 x1
  go_wp2_with fail
  (try simp only [Exit.inBlock, Exit.then])
  refine bodyPost_ret (v := .agg #[.slice A3 n3 c3]) ?_ rfl ⟨_, _, _, rfl, ?_, ?_⟩
  · rw [res_cell1 rfl]; go_simp
  · rw [← incI_lst i Hw.out]
    exact st_at (HO.out.other (by omega)) (incI_wo i Hw.out) (incI_tr i Ht.out)
  · exact (Hb1.out.trans (HB.out.mono (by omega))).setCell (by show w.heap.size ≤ w.heap.size + 1; omega) _
end Bw
end Go.Proofs.YtgmjafammdkgfaaDoor
