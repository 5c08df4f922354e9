/- Sets as rows of words of 64 bits: what the calls do to the words. No program, no memory. A row of numbers of the call's own; append of one number onto it. Words on sets in memory, over any way to hold them; the table of math/bits in its variable. Rows of words of 64 bits that a call owns: append of and what goes with it. -/
import Derived.WalkKit
import Derived.WalkSpells
import Derived.Lib.Hide
import Derived.IntWalk
import Derived.Maps.AppendAt
import Derived.Lib.TrailingZeros
import Derived.Laws.BitsAllLaws
import Derived.Laws.ShiftsVarLaws
import Derived.Deep.RegionWith
import Derived.Deep.RegionHeld3
import Derived.Deep.QuietTactic
import Derived.BigQuiet
import Derived.StillTailTactics
import Derived.Test.YtaoeipehpakngaaGreatDoorPa16
import Derived.Test.YtaoeipehpakngaaGreatDoorProg
import Derived.Test.YtaoeipehpakngaaGreatDoorPa01
import Derived.Test.YtaoeipehpakngaaGreatDoorPa12
import Derived.Test.YtaoeipehpakngaaGreatDoorPa14
import Derived.Test.YtaoeipehpakngaaGreatDoorPa06
namespace Go.Proofs.YtaoeipehpakngaaGreatDoor
set_option maxRecDepth 20000
namespace Bw
open Bs
def nat (L : List Nat) : List Int := L.map fun (k : Nat) => (k : Int)
theorem nat_len (L : List Nat) : (nat L).length = L.length := by simp [nat]
theorem nat_getD (L : List Nat) (k : Nat) : (nat L).getD k 0 = ((L.getD k 0 : Nat) : Int) := by
  unfold nat
  rw [List.getD_eq_getElem?_getD, List.getD_eq_getElem?_getD, List.getElem?_map]
  cases L[k]? <;> rfl
theorem nat_set (L : List Nat) (k v : Nat) : (nat L).set k (v : Int) = nat (L.set k v) := by simp [nat, List.map_set]
theorem nat_app (L M : List Nat) : nat L ++ nat M = nat (L ++ M) := by simp [nat]
theorem nat_rep (n : Nat) : nat (List.replicate n 0) = List.replicate n 0 := by simp [nat]
def Wo (L : List Nat) : Prop := L.length ≤ 1024 ∧ ∀ k, L.getD k 0 < 18446744073709551616
def Tr (L : List Nat) : Prop := ∀ n, L.length = n + 1 → L.getD n 0 ≠ 0
theorem wo_nil : Wo [] := ⟨by simp, fun k => by simp⟩
theorem tr_nil : Tr [] := fun n h => by simp at h
theorem getD_out {L : List Nat} {k : Nat} (h : L.length ≤ k) : L.getD k 0 = 0 := by
  rw [List.getD_eq_getElem?_getD, List.getElem?_eq_none h]
  rfl
def pad (L : List Nat) (n : Nat) : List Nat := L ++ List.replicate (n - L.length) 0
theorem pad_len (L : List Nat) (n : Nat) : (pad L n).length = max L.length n := by simp [pad]; omega
theorem pad_getD (L : List Nat) (n j : Nat) : (pad L n).getD j 0 = L.getD j 0 := by
  unfold pad
  by_cases q : j < L.length
  · rw [List.getD_eq_getElem?_getD, List.getElem?_append_left q, List.getD_eq_getElem?_getD]
  · rw [getD_out (L := L) (by omega), List.getD_eq_getElem?_getD, List.getElem?_append_right (by omega), List.getElem?_replicate]
    split <;> rfl
theorem pad_wo {L : List Nat} {n : Nat} (h : Wo L) (hn : n ≤ 1024) : Wo (pad L n) := ⟨by rw [pad_len]; have := h.1; omega, fun k => by rw [pad_getD]; exact h.2 k⟩
theorem pad_le {L : List Nat} {n : Nat} (h : n ≤ L.length) : pad L n = L := by simp [pad, Nat.sub_eq_zero_of_le h]
def incL (L : List Nat) (k : Nat) : List Nat := (pad L (k / 64 + 1)).set (k / 64) (L.getD (k / 64) 0 ||| 2 ^ (k % 64))
theorem pow_lt (k : Nat) : 2 ^ (k % 64) < 18446744073709551616 := by
  have := Nat.pow_lt_pow_right (a := 2) (by omega) (show k % 64 < 64 by omega)
  omega
theorem or_lt {a b : Nat} (ha : a < 18446744073709551616) (hb : b < 18446744073709551616) : a ||| b < 18446744073709551616 := Nat.or_lt_two_pow (n := 64) ha hb
theorem set_wo {L : List Nat} (h : Wo L) (k v : Nat) (hv : v < 18446744073709551616) : Wo (L.set k v) := by
  refine ⟨by simpa using h.1, fun j => ?_⟩
  by_cases q : k < L.length
  · rw [getD_set L k j v q]
    split
    · exact hv
    · exact h.2 j
  · rw [List.set_eq_of_length_le (by omega)]
    exact h.2 j
theorem inc_wo {L : List Nat} {k : Nat} (h : Wo L) (hk : k < 65536) : Wo (incL L k) := set_wo (pad_wo h (by omega)) _ _ (or_lt (h.2 _) (pow_lt k))
theorem or_ne {a b : Nat} (h : a ≠ 0 ∨ b ≠ 0) : a ||| b ≠ 0 := by
  intro e
  have h1 := Nat.or_eq_zero_iff.1 e
  omega
theorem inc_tr {L : List Nat} {k : Nat} (h : Tr L) : Tr (incL L k) := by
  intro n hn
  have hl : (pad L (k / 64 + 1)).length = n + 1 := by simpa [incL] using hn
  rw [pad_len] at hl
  unfold incL
  rw [getD_set _ _ _ _ (by rw [pad_len]; omega)]
  split
  · exact or_ne (.inr (by have := Nat.two_pow_pos (k % 64); omega))
  · rw [pad_getD]
    exact h n (by omega)
theorem inc_lst {L : List Nat} {k : Nat} (h : Wo L) (hk : k < 65536) : lstW (incL L k) = withL (lstW L) (k : Int) := by
  refine lst_with h.1 (inc_wo h hk).1 hk fun n => ?_
  have e : bitAt (pad L (k / 64 + 1)) n = bitAt L n := by unfold bitAt; rw [pad_getD]
  have := bit_or (L := pad L (k / 64 + 1)) (k := k / 64) (j := k % 64) (by rw [pad_len]; omega) (by omega) n
  rw [pad_getD] at this
  unfold incL
  rw [this, e]
  congr 1
  exact decide_eq_decide.2 (by omega)
def incI (L : List Nat) (i : Int) : List Nat := if 0 ≤ i ∧ i < 65536 then incL L i.toNat else L
theorem incI_in {L : List Nat} {k : Nat} (hk : k < 65536) : incI L (k : Int) = incL L k := by
  unfold incI
  rw [if_pos (by omega), Int.toNat_natCast]
theorem incI_out {L : List Nat} {i : Int} (h : ¬ (0 ≤ i ∧ i < 65536)) : incI L i = L := if_neg h
theorem incI_wo {L : List Nat} (i : Int) (h : Wo L) : Wo (incI L i) := by
  unfold incI
  split
  · exact inc_wo h (by omega)
  · exact h
theorem incI_tr {L : List Nat} (i : Int) (h : Tr L) : Tr (incI L i) := by
  unfold incI
  split
  · exact inc_tr h
  · exact h
theorem incI_lst {L : List Nat} (i : Int) (h : Wo L) : lstW (incI L i) = withL (lstW L) i := by
  by_cases q : 0 ≤ i ∧ i < 65536
  · obtain ⟨k, rfl⟩ := Int.eq_ofNat_of_zero_le q.1
    have e := incI_in (L := L) (k := k) (by omega)
    rw [e]
    exact inc_lst h (by omega)
  · rw [incI_out q]
    unfold withL
    rw [if_neg fun r => q ⟨r.1.1, r.1.2⟩]
theorem fold_wo : ∀ (l : List Int) (L : List Nat), Wo L → Wo (l.foldl incI L)
  | [], _, h => h
  | i :: l, _, h => fold_wo l _ (incI_wo i h)
theorem fold_tr : ∀ (l : List Int) (L : List Nat), Tr L → Tr (l.foldl incI L)
  | [], _, h => h
  | i :: l, _, h => fold_tr l _ (incI_tr i h)
theorem fold_lst : ∀ (l : List Int) (L : List Nat), Wo L → lstW (l.foldl incI L) = l.foldl withL (lstW L)
  | [], _, _ => rfl
  | i :: l, L, h => by
    show lstW (l.foldl incI (incI L i)) = l.foldl withL (withL (lstW L) i)
    rw [fold_lst l _ (incI_wo i h), incI_lst i h]
theorem of_lst (l : List Int) : lstW (l.foldl incI []) = ofL l := by
  rw [fold_lst l [] wo_nil, lstW_nil]
  rfl
def uptoW (n : Nat) : List Nat := (List.range ((n + 63) / 64)).map fun k => if 64 * k + 64 ≤ n then 18446744073709551615 else 2 ^ (n % 64) - 1
theorem upto_len (n : Nat) : (uptoW n).length = (n + 63) / 64 := by simp [uptoW]
theorem upto_getD (n k : Nat) (hk : k < (n + 63) / 64) : (uptoW n).getD k 0 = if 64 * k + 64 ≤ n then 18446744073709551615 else 2 ^ (n % 64) - 1 := by
  unfold uptoW
  rw [List.getD_eq_getElem?_getD, List.getElem?_map, List.getElem?_range hk]
  rfl
theorem upto_wo {n : Nat} (hn : n ≤ 65536) : Wo (uptoW n) := by
  refine ⟨by rw [upto_len]; omega, fun k => ?_⟩
  by_cases q : k < (n + 63) / 64
  · rw [upto_getD n k q]
    have := pow_lt n
    split <;> omega
  · rw [getD_out (by rw [upto_len]; omega)]
    omega
theorem upto_tr (n : Nat) : Tr (uptoW n) := by
  intro m hm
  rw [upto_len] at hm
  rw [upto_getD n m (by omega)]
  split
  · omega
  · have h1 : n % 64 ≠ 0 := by omega
    have := Nat.one_lt_two_pow h1
    omega
theorem upto_bit (n m : Nat) : bitAt (uptoW n) m = decide (m < n) := by
  unfold bitAt
  by_cases q : m / 64 < (n + 63) / 64
  · rw [upto_getD n _ q]
    split
    · rw [show 18446744073709551615 = 2 ^ 64 - 1 by rfl, Nat.testBit_two_pow_sub_one]
      exact decide_eq_decide.2 (by omega)
    · rw [Nat.testBit_two_pow_sub_one]
      exact decide_eq_decide.2 (by omega)
  · rw [getD_out (by rw [upto_len]; omega), Nat.zero_testBit, decide_eq_false (by omega)]
theorem upto_lst {n : Nat} {i : Int} (hn : n ≤ 65536) (h : n = cut i) : lstW (uptoW n) = uptoL i :=
  lst_upto (upto_wo hn).1 fun m => by rw [upto_bit, h]
theorem same_lst {L M : List Nat} (hL : Wo L) (hM : Wo M) (tL : Tr L) (tM : Tr M) : lstW L = lstW M ↔ L = M := by
  constructor
  · intro e
    have h := (lst_same hL.1 hM.1 hL.2 hM.2).1 e
    have hl : L.length = M.length := by
      rcases Nat.lt_trichotomy L.length M.length with q | q | q
      · exfalso
        refine tM (M.length - 1) (by omega) ?_
        rw [← h, getD_out (by omega)]
      · exact q
      · exfalso
        refine tL (L.length - 1) (by omega) ?_
        rw [h, getD_out (by omega)]
    refine List.ext_getElem hl fun k h1 h2 => ?_
    have := h k
    rw [List.getD_eq_getElem?_getD, List.getD_eq_getElem?_getD, List.getElem?_eq_getElem h1, List.getElem?_eq_getElem h2] at this
    exact this
  · rintro rfl
    rfl
end Bw
end Go.Proofs.YtaoeipehpakngaaGreatDoor
namespace Go.Proofs.YtaoeipehpakngaaGreatDoor
set_option maxRecDepth 20000
open Go.RowKit Go.Maps
namespace Bx
theorem info_i : (Tryz.prog.info? 3).map (fun i => (i.zero, i.size, i.bytes)) = some (some (.int .i64 0), 1, 8) := by kernel_rfl
def Rw (w : World) (B : Nat) (v : Value) (L : List Int) : Prop := w.ownsRow B 3 1 v L.length (L.map (Value.int .i64))
theorem Rw.nil (w : World) (B : Nat) : Rw w B (.slice none 0 0) [] := World.ownsRow_nil _ _ _ _
theorem wpList_app (w : World) {ops : Array Oper} {rest : List Oper} {o : Oper} {a : Act} {Q : Exit → Act → World → Prop} (hgd : o.guard = none) (s x : Operand)
    (ho : o.op = .call { callee := .builtin .append, args := #[s, x], argTypes := #[25, 25] })
    (w0 : World) (v : Value) (L : List Int) (hs : a.eval s = v) (hown : Rw w0 w.heap.size v L) (y : Int) (hx : a.eval x = .slice (some ⟨w0.heap.size, 0, none⟩) 1 1) (hL : L.length ≤ 1000000) (hb : Below w.heap.size w w0)
    (h : ∀ v' w', Rw w' w.heap.size v' (L ++ [y]) → Below w.heap.size w w' → wpList Tryz.prog ops Q rest (a.put o.dst v') w') : wpList Tryz.prog ops Q (o :: rest) a (w0.alloc (.cells #[.int .i64 y] 3)) := by
  obtain ⟨i0, hi, hz0, hz1, hz2⟩ := info_parts info_i
  have hb1 := hb.alloc hb.size (.cells #[.int .i64 y] 3)
  refine wpList_plain hgd fun K hK => ?_
  obtain ⟨v', w', hrun, h2, h3, _, _⟩ := run_append_own_at (P := Tryz.prog) (w0.alloc (.cells #[.int .i64 y] 3)) w.heap.size 25 o.type 3 i0 _ 1 8 Tryz.underlying25 hi hz0 hz1 hz2 rfl (by decide) v L.length _ (World.ownsRow.alloc hown _) ⟨w0.heap.size, 0, none⟩ 1 1 [.int .i64 y] rfl (cell_one_new _ _ _) (fun u hu => by rw [List.mem_singleton.1 hu]; rfl) (by unfold maxLen; omega) (by omega) hb1.size
  unfold Oper.wp
  simp [execOp, ho, resolve, invoke, builtin, hs, hx, hrun, Result.andThen]
  exact hK _ _ (h v' w' (by unfold Rw; rw [List.length_append, List.map_append]; exact h2) (hb1.grown h3 hb1.size fun g hg => (World.ownsRow.lt hown g hg).1))
end Bx
end Go.Proofs.YtaoeipehpakngaaGreatDoor
namespace Go.Proofs.YtaoeipehpakngaaGreatDoor
set_option maxRecDepth 20000
open Go.RowKit
namespace Bi
def Gv (S : World → Option Addr → Nat → Nat → List Int → Prop) (w : World) (X : List Int) (e : Ending) (w' : World) : Prop := ∃ A n c, e = .returned (.agg #[.slice A n c]) ∧ S w' A n c X ∧ Below w.heap.size w w'
def I64 (i : Int) : Prop := -9223372036854775808 ≤ i ∧ i ≤ 9223372036854775807
end Bi
namespace Bw
open Bs Bx Bi
theorem info_w : (Tryz.prog.info? 131).map (fun i => (i.zero, i.size, i.bytes)) = some (some (.int .u64 0), 1, 8) := by kernel_rfl
def Ow (w : World) (B : Nat) (v : Value) (L : List Nat) : Prop := w.ownsRow B 131 1 v L.length ((nat L).map (Value.int .u64))
def St (w : World) (A : Option Addr) (n c : Nat) (X : List Int) : Prop := ∃ L, Wd.Sl w .u64 A n c (nat L) ∧ Wo L ∧ Tr L ∧ X = lstW L
theorem Ow.sl {w : World} {B : Nat} {v : Value} {L : List Nat} (h : Ow w B v L) : ∃ A n c, v = .slice A n c ∧ Wd.Sl w .u64 A n c (nat L) := by
  unfold Ow at h
  exact Wd.Sl.of_own h
theorem Ow.down {w : World} {B B' : Nat} {v : Value} {L : List Nat} (h : Ow w B v L) (hB : B' ≤ B) : Ow w B' v L := Wd.own_down h hB
theorem Ow.nil (w : World) (B : Nat) : Ow w B (.slice none 0 0) [] := World.ownsRow_nil _ _ _ _
theorem Ow.shape {w : World} {B : Nat} {v : Value} {L : List Nat} (h : Ow w B v L) (hL : 0 < L.length) : ∃ g c, v = .slice (some ⟨g, 0, none⟩) L.length c ∧ B ≤ g ∧ g < w.heap.size ∧ L.length ≤ c ∧ c ≤ maxLen := by
  rcases h.2 with ⟨_, h0⟩ | ⟨g, cap, cur, rfl, hb, hg, h1, h2, _⟩
  · omega
  · exact ⟨g, cap, rfl, hb, (Array.getElem?_eq_some_iff.1 hg).1, h1, h2⟩
theorem Ow.cell {w : World} {B g c n : Nat} {L : List Nat} (h : Ow w B (.slice (some ⟨g, 0, none⟩) n c) L) (hn : n = L.length) (j : Nat) (hj : j < L.length) :
    w.cell? ⟨g, j, none⟩ = some (.int .u64 ((L.getD j 0 : Nat) : Int)) ∧ w.frozen? ⟨g, j, none⟩ = false := by
  subst hn
  rcases h.2 with ⟨hq, _⟩ | ⟨g', cap', cur, hq, hb, hg, h1, h2, h3, h4⟩
  · cases hq
  · simp only [Value.slice.injEq, Option.some.injEq, Addr.mk.injEq, and_true, true_and] at hq
    obtain ⟨rfl, rfl⟩ := hq
    refine ⟨?_, frozen_of_row w g j cur _ hg⟩
    have := World.ownsRow.cellAt h (g := g) (cap := c) j (by omega)
    rw [this, ← nat_getD]
    have hl : j < (nat L).length := by rw [nat_len]; exact hj
    simp [List.getD, List.getElem?_eq_getElem hl]
theorem Ow.set {w : World} {B g c n : Nat} {L : List Nat} (h : Ow w B (.slice (some ⟨g, 0, none⟩) n c) L) (hn : n = L.length) (j x : Nat) :
    Ow (w.setCell ⟨g, j, none⟩ (.int .u64 (x : Int))) B (.slice (some ⟨g, 0, none⟩) n c) (L.set j x) := by
  subst hn
  rcases h.2 with ⟨hq, _⟩ | ⟨g', cap', cur, hq, hb, hg, h1, h2, h3, h4⟩
  · cases hq
  · simp only [Value.slice.injEq, Option.some.injEq, Addr.mk.injEq, and_true, true_and] at hq
    obtain ⟨rfl, rfl⟩ := hq
    have hl : (L.set j x).length = L.length := by simp
    unfold Ow
    rw [hl]
    refine ⟨by simp [nat_len], .inr ⟨g, c, _, rfl, hb, heap_setCell_same w g j cur _ _ hg, h1, h2, by simpa using h3, ?_⟩⟩
    rw [Array.toList_setIfInBounds, List.take_set, h4, ← nat_set, List.map_set]
theorem zeros_list (m : Nat) : (Builtin.zeroCells (Value.int .u64 0).cells m).toList = (nat (List.replicate m 0)).map (Value.int .u64) := by
  rw [nat_rep]
  refine List.ext_getElem (by simp [Builtin.zeroCells, Value.cells]) fun i h1 h2 => ?_
  simp [Builtin.zeroCells, Value.cells, Nat.mod_one]
set_option maxHeartbeats 1000000 in
theorem run_zeros (w : World) (ty : TypeId) (B : Nat) (v : Value) (L : List Nat) (h : Ow w B v L) (m : Nat) (hm : 0 < m) (hL : L.length + m ≤ 100000) (hB : B ≤ w.heap.size) :
    ∃ v' w', (Builtin.append_ #[241, 3] ty #[v, .int .i64 (m : Int)]).run Tryz.prog w = .ok v' w' ∧ Ow w' B v' (L ++ List.replicate m 0) ∧ w.grownBy w' v.ownBlock := by
  obtain ⟨i, hi, hz, hs, hby⟩ := info_parts info_w
  have ht := Tryz.underlying241
  have hu := Tryz.underlying3
  have hzl := zeros_list m
  have hmw : IntKind.i64.wrap (m : Int) = (m : Int) := by rw [IntKind.wrap_i64]; omega
  have hm0 : ¬ ((m : Int) < 0) := by omega
  have hmne : m ≠ 0 := by omega
  have hlen : ((nat (L ++ List.replicate m 0)).map (Value.int .u64)).length = (L.length + m) * 1 := by simp [nat_len]
  have hxs : (nat (L ++ List.replicate m 0)).map (Value.int .u64) = (nat L).map (Value.int .u64) ++ (nat (List.replicate m 0)).map (Value.int .u64) := by rw [← nat_app, List.map_append]
  have key : ∀ (w1 : World) (old : Nat), old < L.length + m →
      (w.drew.alloc (.cells (((nat L).map (Value.int .u64)).toArray ++ (Builtin.zeroCells (Value.int .u64 0).cells m) ++ Builtin.zeroCells (Value.int .u64 0).cells (grownCap w (L.length + m) old 131 - (L.length + m))) 131)) = w1 →
      Ow w1 B (.slice (some ⟨w.heap.size, 0, none⟩) (L.length + m) (grownCap w (L.length + m) old 131)) (L ++ List.replicate m 0) ∧ ∀ row, w.grownBy w1 row := by
    rintro w1 old ho rfl
    have hge := grownCap_ge w (L.length + m) old 131
    have hcm : grownCap w (L.length + m) old 131 ≤ maxLen := grownCap_le_maxLen w (L.length + m) old 131 (by unfold maxLen; omega)
    refine ⟨?_, fun row => ⟨rfl, rfl, rfl, by simp, fun k hk _ => Below.heap_alloc w.drew _ k hk⟩⟩
    have hll : (L ++ List.replicate m (0 : Nat)).length = L.length + m := by simp
    unfold Ow
    rw [hll]
    refine ⟨hlen, .inr ⟨w.heap.size, _, _, rfl, hB, heap_alloc_new w.drew _, hge, hcm, ?_, ?_⟩⟩
    · simp [size_zeroCells, nat_len, Value.cells]
      omega
    · rw [Array.toList_append, Array.toList_append, hzl, hxs, ← hlen, ← hxs, List.take_append_of_le_length (Nat.le_refl _), List.take_length]
  have hbig : ¬ ((m : Int) * i.bytes > 2 ^ 48) := by rw [hby]; omega
  rcases h.2 with ⟨rfl, h0⟩ | ⟨g, cap, cur, rfl, hbg, hg, hnc, hcm, hcs, htake⟩
  · obtain rfl : L = [] := List.eq_nil_of_length_eq_zero h0
    obtain ⟨k1, k2⟩ := key _ 0 (by omega) rfl
    refine ⟨_, _, ?_, k1, k2 _⟩
    have h63' : ¬ (9223372036854775807 < (m : Int)) := by simp at hL; omega
    have h48' : ¬ (281474976710656 < Builtin.nextslicecap m 0 * i.bytes) := by rw [nextslicecap_zero hm, hby]; simp at hL; omega
    have hb2 : ¬ (281474976710656 < (m : Int) * i.bytes) := by rw [hby]; simp at hL; omega
    simp [Builtin.append_, run_underlying ht, run_underlying hu, sizeOf, typeInfo, zeroValue, hi, hz, hs, asInt, asIntOf, hmw, hm0, hmne, h63', h48', hb2, Question.forced, run_firstCells_none, newRow, grownCap, nat]
  · by_cases hroom : L.length + m ≤ cap
    · have hnl : ((nat (List.replicate m 0)).map (Value.int .u64)).length = m := by simp [nat_len]
      have hfit : L.length * 1 + ((nat (List.replicate m 0)).map (Value.int .u64)).length ≤ cur.size := by rw [hnl, hcs]; omega
      have h1 : ∀ u ∈ (nat (List.replicate m 0)).map (Value.int .u64), u.oneCell' = true := fun u hu => by
        obtain ⟨x, _, rfl⟩ := List.mem_map.1 hu
        rfl
      have hst := run_storeCells_at Tryz.prog g (L.length * 1) 131 _ 0 cur w hg (by simpa using hfit) h1
      rw [← hzl] at hst
      have hb2 : ¬ (281474976710656 < (m : Int) * i.bytes) := by rw [hby]; omega
      refine ⟨.slice (some ⟨g, 0, none⟩) (L.length + m) cap, w.setRow g (cur.toList.take (L.length * 1) ++ (nat (List.replicate m 0)).map (Value.int .u64) ++ cur.toList.drop (L.length * 1 + ((nat (List.replicate m 0)).map (Value.int .u64)).length)).toArray, ?_, ?_, ⟨rfl, rfl, rfl, by simp, fun k _ hk => setRow_other w g k _ (fun e => hk (by simp [Value.ownBlock, e]))⟩⟩
      · simp only [Nat.add_zero, Nat.mul_one] at hst
        simp [Builtin.append_, run_underlying ht, run_underlying hu, sizeOf, typeInfo, zeroValue, hi, hz, hs, asInt, asIntOf, hmw, hm0, hmne, hroom, hb2, Addr.add_lit]
        rw [hst, Result.andThen_ok, hzl]
        simp
      · have hll : (L ++ List.replicate m (0 : Nat)).length = L.length + m := by simp
        unfold Ow
        rw [hll]
        refine ⟨hlen, .inr ⟨g, cap, _, rfl, hbg, setRow_heap w g cur _ _ _ hg, hroom, hcm, ?_, ?_⟩⟩
        · simp only [List.size_toArray, List.length_append, List.length_take, List.length_drop, Array.length_toList, hnl]
          omega
        · rw [htake, hxs, ← hlen, hxs]
          exact List.take_left
    · obtain ⟨k1, k2⟩ := key _ cap (by omega) rfl
      refine ⟨_, _, ?_, k1, k2 _⟩
      have hb2 : ¬ (281474976710656 < (m : Int) * i.bytes) := by rw [hby]; omega
      have h63' : ¬ (9223372036854775807 < (L.length : Int) + (m : Int)) := by omega
      have h48' : ¬ (281474976710656 < Builtin.nextslicecap (L.length + m) cap * i.bytes) := by
        have := growslice_fits (need := L.length + m) (old := cap) (bytes := 8) (by omega) (by omega)
        rw [hby]; omega
      have holds : ∀ j u, ((nat L).map (Value.int .u64))[j]? = some u → w.cell? ((⟨g, 0, none⟩ : Addr).add j) = some u := World.ownsRow.cells h (g := g) rfl
      have hfo := run_firstCells_some (P := Tryz.prog) w.drew 1 L.length ⟨g, 0, none⟩ L.length cap ((nat L).map (Value.int .u64)) (by simp [nat_len]) (by simpa using holds)
      simp [Builtin.append_, run_underlying ht, run_underlying hu, sizeOf, typeInfo, zeroValue, hi, hz, hs, asInt, asIntOf, hmw, hm0, hmne, hroom, h63', h48', hb2, Question.forced, hfo, newRow, grownCap]
theorem wpList_zeros (w : World) {ops : Array Oper} {rest : List Oper} {o : Oper} {a : Act} {Q : Exit → Act → World → Prop} (hgd : o.guard = none) (s x : Operand)
    (ho : o.op = .call { callee := .builtin .append, args := #[s, x], argTypes := #[241, 3] }) (B : Nat) (v : Value) (L : List Nat) (hs : a.eval s = v) (h : Ow w B v L) (k : Int) (m : Nat) (hx : a.eval x = .int .i64 k) (hk : k = (m : Int)) (hm : 0 < m) (hL : L.length + m ≤ 100000) (hB : B ≤ w.heap.size)
    (hK : ∀ v' w', Ow w' B v' (L ++ List.replicate m 0) → w.grownBy w' v.ownBlock → wpList Tryz.prog ops Q rest (a.put o.dst v') w') : wpList Tryz.prog ops Q (o :: rest) a w := by
  subst hk
  refine wpList_plain hgd fun K hK' => ?_
  obtain ⟨v', w', hrun, h2, h3⟩ := run_zeros w o.type B v L h m hm hL hB
  unfold Oper.wp
  simp [execOp, ho, resolve, invoke, builtin, hs, hx, hrun, Result.andThen]
  exact hK' _ _ (hK v' w' h2 h3)
theorem bit_any (i : Nat) (hi : i < 65536) (w : World) :
    Calls Tryz.prog 262 #[.int .i64 (i : Int)] w fun e w' => e = .returned (.int .u64 ((2 ^ (i % 64) : Nat) : Int)) ∧ w' = w := by
  have hp := pow_lt i
  have e : IntKind.u64.wrap (2 ^ (i % 64)) = ((2 ^ (i % 64) : Nat) : Int) := by
    rw [IntKind.wrap_u64, show ((2 : Int) ^ (i % 64)) = ((2 ^ (i % 64) : Nat) : Int) from (Int.natCast_pow 2 (i % 64)).symm]
    exact Int.emod_eq_of_lt (Int.natCast_nonneg _) (Int.ofNat_lt.2 hp)
  have E := Lib.hid e
  clear e hp
  go_enter Tryz.func262, Tryz.ntmps262
  go_wp2
  go_ret
  exact ⟨by rw [← E.out]; rfl, rfl⟩
end Bw
namespace Bw
open Bs Bx Bi
theorem res_cell1 {fn : Func} {p : Tmp} {ty : TypeId} (h : fn.results = #[.cell p ty]) (tmps : Array Value) (P : Program) (w : World) :
    (results fn tmps).run P w = ((asAddr (tmps.getD p undef)).run P w).andThen fun a w₁ => (loadVar ty a).run P w₁ := by
  simp only [results, h]
  simp [Sem.run_bind, Result.andThen]
end Bw
namespace Bw
open Bs Bx Bi
def IncA (w : World) (B : Nat) (M : List Nat) (e : Ending) (w' : World) : Prop := ∃ v', e = .returned v' ∧ Ow w' B v' M ∧ Below B w w'
set_option maxHeartbeats 4000000 in
theorem include_any (B : Nat) (v : Value) (L : List Nat) (i : Int) (w : World) (h : Ow w B v L) (hw : Wo L) (hB : B ≤ w.heap.size) :
    Calls Tryz.prog 248 #[v, .int .i64 i] w (IncA w B (incI L i)) := by
  have Bit := Lib.hid fun k hk w => bit_any k hk w
  by_cases h0 : 0 ≤ i
  case neg =>
    have hlt : i < 0 := by omega
    rw [incI_out (by omega)]
    clear h0
    go_enter Tryz.func248, Tryz.ntmps248
    go_wp2
    go_ret
    exact ⟨_, rfl, h, Below.refl _ _⟩
  by_cases h1 : i < 65536
  case neg =>
    have hge : 65536 ≤ i := by omega
    rw [incI_out (by omega)]
    clear h1
    go_enter Tryz.func248, Tryz.ntmps248
    go_wp2
    go_ret
    exact ⟨_, rfl, h, Below.refl _ _⟩
  obtain ⟨k, hik⟩ : ∃ k : Nat, i = (k : Int) := ⟨i.toNat, by omega⟩
  have hk : k < 65536 := by omega
  have Ck := Lib.hid fun w => bit_any k hk w
  have hin0 : incI L i = incL L k := by rw [hik]; exact incI_in hk
  rw [← hik] at Ck
  obtain ⟨y, hy⟩ : ∃ y, y = 2 ^ (k % 64) := ⟨_, rfl⟩
  rw [← hy] at Ck
  have hy1 : y < 18446744073709551616 := by rw [hy]; exact pow_lt k
  obtain ⟨q, hq⟩ : ∃ q, q = k / 64 := ⟨_, rfl⟩
  have eq1 : i / 64 = (q : Int) := by omega
  have hq1 : q < 1024 := by omega
  have et : IntKind.i64.wrap (i.tdiv 64) = (q : Int) := by rw [Int.tdiv_eq_ediv_of_nonneg h0, eq1, IntKind.wrap_i64]; omega
  have Hin := Lib.hid (show incI L i = (pad L (q + 1)).set q (L.getD q 0 ||| y) by rw [hin0, hq, hy]; rfl)
  have Hor := Lib.hid (u64_or_nat (L.getD q 0) y (hw.2 q) hy1)
  have HW := Lib.hid hw
  clear hq hy hk hw Bit hy1 hin0 hik
  by_cases hqL : q < L.length
  · obtain ⟨g, c, rfl, hBg, hgw, hnc, hcm⟩ := h.shape (by omega)
    obtain ⟨hc, hf⟩ := h.cell rfl q hqL
    have Ho := Lib.hid h
    have Hqn := Lib.hid hqL
    obtain ⟨n, hn⟩ : ∃ n, n = L.length := ⟨_, rfl⟩
    obtain ⟨x, hx⟩ : ∃ x, x = L.getD q 0 := ⟨_, rfl⟩
    rw [← hn] at hnc hqL ⊢
    rw [← hx] at hc
    have hqi : (q : Int) < (n : Int) := by omega
    have hq0 : (0 : Int) ≤ (q : Int) := by omega
    have hn1 : n ≤ 1024 := by rw [hn]; exact HW.out.1
    have Hn := Lib.hid hn
    have Hx := Lib.hid hx
    unfold maxLen at hcm
    clear hn hx h
    go_enter Tryz.func248, Tryz.ntmps248
    go_wp2_with fail
    refine wp_region_still_tail 9 (by kernel_rfl) (by kernel_rfl) ?_
    simp only [List.take_succ_cons, List.take_zero, List.drop_succ_cons, List.drop_zero]
    repeat (first | still_call (Ck.out _) | still_step)
    try refine wpStill_nil ?_
    change wpList _ _ _ _ _ w.drew
    go_wp2_with fail
    go_ret
    rw [Hx.out, Hor.out, Hin.out, pad_le (by have := Hqn.out; omega), Hn.out]
    exact ⟨_, rfl, Ow.set (w := w.drew) Ho.out rfl q _, (Below.refl _ _).drew.setCell hBg _⟩
  · obtain ⟨A, n, c, rfl, hS⟩ := h.sl
    have hn : n = L.length := by rw [hS.len, nat_len]
    have hqi : ¬ (q : Int) + 1 ≤ (n : Int) := by omega
    have hcap := hS.cap
    have hmx := hS.max
    unfold maxLen at hmx
    have hn1 : n ≤ 1024 := by rw [hn]; exact HW.out.1
    have Hn := Lib.hid hn
    have Ho := Lib.hid h
    have HqL := Lib.hid hqL
    clear hn h hqL hS
    obtain ⟨m, hm⟩ : ∃ m, m = q + 1 - n := ⟨_, rfl⟩
    have em : (q : Int) + 1 - (n : Int) = (m : Int) := by omega
    have hm0 : 0 < m := by omega
    have Hm := Lib.hid hm
    clear hm
    go_enter Tryz.func248, Tryz.ntmps248
    go_wp2_with (at_builtin; refine wpList_zeros _ rfl (.tmp 21) (.tmp 22) rfl B (.slice A n c) L rfl Ho.out _ m rfl rfl hm0 (by have := Hn.out; have := Hm.out; omega) hB ?_; intro v1 w1 hO1 hG1)
    have hb1 : Below B w w1 := (Below.refl B w).grown hG1 hB fun k hk => (World.ownsRow.lt Ho.out k hk).1
    have hM : L ++ List.replicate m 0 = pad L (q + 1) := by unfold pad; rw [Hm.out, Hn.out]
    have hMl : (L ++ List.replicate m 0).length = q + 1 := by have := Hn.out; have := Hm.out; simp; omega
    obtain ⟨g, c1, rfl, hBg, hgw, hnc, hcm⟩ := hO1.shape (by omega)
    obtain ⟨hc, hf⟩ := hO1.cell rfl q (by omega)
    have Ho1 := Lib.hid hO1
    rw [hM, pad_getD] at hc
    obtain ⟨x, hx⟩ : ∃ x, x = L.getD q 0 := ⟨_, rfl⟩
    rw [← hx] at hc
    have Hx := Lib.hid hx
    have HM := Lib.hid hM
    obtain ⟨N, hN⟩ : ∃ N, N = (L ++ List.replicate m 0).length := ⟨_, rfl⟩
    rw [← hN] at hnc ⊢
    have hq0 : (0 : Int) ≤ (q : Int) := by omega
    have hq2 : (q : Int) < (N : Int) := by omega
    have HN := Lib.hid hN
    unfold maxLen at hcm
    clear hM hMl hx hO1 hG1 hN
    refine wp_region_still_tail 9 (by kernel_rfl) (by kernel_rfl) ?_
    simp only [List.take_succ_cons, List.take_zero, List.drop_succ_cons, List.drop_zero]
    repeat (first | still_call (Ck.out _) | still_step)
    try refine wpStill_nil ?_
    change wpList _ _ _ _ _ w1.drew
    go_wp2_with fail
    go_ret
    rw [Hx.out, Hor.out, Hin.out, ← HM.out]
    exact ⟨_, rfl, Ow.set (w := w1.drew) (by rw [HN.out]; exact Ho1.out) HN.out q _, hb1.drew.setCell hBg _⟩
end Bw
namespace Bw
open Bs Bx Bi
theorem st_at {w : World} {A : Option Addr} {n c : Nat} {L : List Nat} {B : Nat} (h : Ow w B (.slice A n c) L) (hw : Wo L) (ht : Tr L) : St w A n c (lstW L) := by
  obtain ⟨A', n', c', e, hS⟩ := h.sl
  cases e
  exact ⟨L, hS, hw, ht, rfl⟩
theorem Ow.other {w : World} {B b : Nat} {v u : Value} {L : List Nat} (h : Ow w B v L) (hb : b < B) : Ow (w.setCell ⟨b, 0, none⟩ u) B v L := by
  have hg : w.grownBy (w.setCell ⟨b, 0, none⟩ u) (some b) := ⟨rfl, rfl, rfl, by simp, fun k _ hk => heap_setCell_other w _ k u (fun e => hk (by rw [e]))⟩
  refine World.ownsRow.kept h hg ?_
  cases hv : v.ownBlock with
  | none => exact .inl rfl
  | some g => exact .inr fun e => by have := (World.ownsRow.lt h g hv).1; cases e; omega
theorem take_next (l : List Int) (k : Nat) (h : k < l.length) : l.take (k + 1) = l.take k ++ [l.getD k 0] := by
  rw [List.take_succ_eq_append_getElem h]
  simp [List.getD, h]
set_option maxHeartbeats 4000000 in
theorem of_any (A : Option Addr) (n c : Nat) (l : List Int) (w : World) (hS : Wd.Sl w .i64 A n c l) (hn : n ≤ 1000000) :
    Calls Tryz.prog 220 #[.slice A n c] w (Gv St w (ofL l)) := by
  have hb0 := (Below.refl w.heap.size w).alloc (Nat.le_refl _) (.cells #[.slice none 0 0] 243)
  have x0 : Wd.Var (w.alloc (.cells #[.slice none 0 0] 243)) w.heap.size 243 (.slice none 0 0) := Wd.Var.new _ _ _
  have hsz : (w.alloc (.cells #[.slice none 0 0] 243)).heap.size = w.heap.size + 1 := by simp
  have hcap := hS.cap
  have hmx := hS.max
  unfold maxLen at hmx
  have HS := Lib.hid hS
  have Hl := Lib.hid hS.len
  have Inc := Lib.hid fun B v L i w h hw hB => include_any B v L i w h hw hB
  have hI0 : ∃ v, Value.slice none 0 0 = v ∧ Ow (w.alloc (.cells #[.slice none 0 0] 243)) (w.heap.size + 1) v [] := ⟨_, rfl, Ow.nil _ _⟩
  clear hS
  go_enter Tryz.func220, Tryz.ntmps220
  go_wp2_with fail
  go_loopw [3, 8] (fun v j wr => ∃ k : Nat, j = .int .i64 k ∧ k ≤ n ∧ Ow wr (w.heap.size + 1) v ((l.take k).foldl incI []) ∧ Below (w.heap.size + 1) (w.alloc (.cells #[.slice none 0 0] 243)) wr) (fun _ j _ => n - (intOf j).toNat)
  case atStart => exact ⟨0, rfl, Nat.zero_le _, by obtain ⟨v, rfl, h⟩ := hI0; exact h, Below.refl _ _⟩
  case round =>
    obtain ⟨k, rfl, hk, hO, hB⟩ := hrel
    by_cases hlt : k < n
    · have hkl : k < l.length := by rw [← Hl.out]; exact hlt
      have hS2 := HS.out.below (hb0.trans (hB.mono (by omega)))
      obtain ⟨b, o, hA, hb, hc⟩ := hS2.rd k hkl
      subst hA
      have hkI : (k : Int) < n := by omega
      have Ht := Lib.hid (take_next l k hkl)
      obtain ⟨x, hx⟩ : ∃ x, x = l.getD k 0 := ⟨_, rfl⟩
      rw [← hx] at hc
      have Hx := Lib.hid hx
      have C := Lib.hid (Inc.out (w.heap.size + 1) _ _ x _ hO (fold_wo _ _ wo_nil) (by rw [← hsz]; exact hB.size))
      have HO := Lib.hid hO
      clear hx hkl hS2 hO
      go_wp2_with fail
      refine C.out.mono ?_
      rintro e w2 ⟨v2, rfl, hO2, hB2⟩
      go_wp2_with fail
      go_roundw
      case rel => exact ⟨k + 1, by go_num, by omega, by rw [Ht.out, List.foldl_append, ← Hx.out]; exact hO2, hB.trans hB2⟩
      case measure => simp [intOf]; omega
    · have hkI : ¬ (k : Int) < n := by omega
      have x1 : Wd.Var _ w.heap.size 243 (.slice none 0 0) := (hB.block w.heap.size (by omega)).trans x0
      have c1 := x1.cell
      have f1 := x1.free
      rw [List.take_of_length_le (by rw [← Hl.out]; omega)] at hO
      obtain ⟨A1, n1, c1, rfl, -⟩ := hO.sl
      have HO := Lib.hid hO
      have HB := Lib.hid hB
      clear hO hB x0
      go_wp2_with fail
      have c2 := (Wd.Var.set (u := .slice A1 n1 c1) x1).cell
      (try simp only [Exit.inBlock, Exit.then])
      refine bodyPost_ret (v := .agg #[.slice A1 n1 c1]) ?_ rfl ⟨_, _, _, rfl, ?_, ?_⟩
      · rw [res_cell1 rfl]; go_simp
      · rw [← of_lst]
        exact st_at (HO.out.other (by omega)) (fold_wo _ _ wo_nil) (fold_tr _ _ tr_nil)
      · exact (hb0.trans (HB.out.mono (by omega))).setCell (Nat.le_refl _) _
end Bw
end Go.Proofs.YtaoeipehpakngaaGreatDoor
