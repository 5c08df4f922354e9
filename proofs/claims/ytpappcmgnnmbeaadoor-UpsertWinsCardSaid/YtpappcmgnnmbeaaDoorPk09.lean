/- What the reference of layer 9 does: With, Of, Or. What the comparisons of layer 1's reference do: Same (bytes), Ints (integers). Words on sets in memory, over any way to hold them; the table of math/bits in its variable. What the statements of layer 9 ask of sets in memory: contracts of the calls, as one word; the chapter's example; few. Rows of words of 64 bits that a call owns: append of zeros, a store; package bitset's bit and trimmed; slices.Clone. -/
import Derived.WalkKit
import Derived.WalkSpells
import Derived.Lib.Hide
import Derived.Deep.QuietTactic
import Derived.BigQuiet
import Derived.Lib.TrailingZeros
import Derived.Deep.RegionWith
import Derived.Deep.RegionHeld3
import Derived.Laws.BitsAllLaws
import Derived.Laws.ShiftsVarLaws
import Derived.Test.YtpappcmgnnmbeaaDoorPk08
import Derived.Test.YtpappcmgnnmbeaaDoorProg
import Derived.Test.YtpappcmgnnmbeaaDoorPk01
import Derived.Test.YtpappcmgnnmbeaaDoorPk05
namespace Go.Proofs.YtpappcmgnnmbeaaDoor
set_option maxRecDepth 20000
open Go.RowKit Go.Maps
namespace Bx
open Bs
theorem ins_mid {i : Int} : ∀ {P : List Int} (_ : ∀ x ∈ P, x < i) {x : Int} (_ : ¬ x < i) (Q : List Int), ins i (P ++ x :: Q) = P ++ i :: x :: Q
  | [], _, x, h, Q => by show ins i (x :: Q) = _; rw [ins, if_neg h]; rfl
  | a :: P, hP, x, h, Q => by
    show ins i (a :: (P ++ x :: Q)) = _
    rw [ins, if_pos (hP a (by simp)), ins_mid (fun y hy => hP y (by simp [hy])) h Q]
    rfl
theorem ins_end {i : Int} : ∀ {P : List Int} (_ : ∀ x ∈ P, x < i), ins i P = P ++ [i]
  | [], _ => rfl
  | a :: P, hP => by
    rw [ins, if_pos (hP a (by simp)), ins_end fun y hy => hP y (by simp [hy])]
    rfl
theorem ins_app {i : Int} : ∀ {P : List Int} (_ : ∃ x ∈ P, ¬ x < i) (Q : List Int), ins i (P ++ Q) = ins i P ++ Q
  | [], h, _ => by obtain ⟨x, hx, _⟩ := h; simp at hx
  | a :: P, h, Q => by
    show ins i (a :: (P ++ Q)) = _
    rw [ins, ins]
    by_cases q : a < i
    · rw [if_pos q, if_pos q, ins_app (P := P) (by
        obtain ⟨x, hx, hn⟩ := h
        rcases List.mem_cons.1 hx with e | e
        · rw [e] at hn; exact absurd q hn
        · exact ⟨x, e, hn⟩) Q]
      rfl
    · rw [if_neg q, if_neg q]
      rfl
/-- Has the number come already, behind k of them? What has come. -/
def dn (X : List Int) (i : Int) (k : Nat) : Bool := (X.take k).any fun x => decide (i < x)
def outW (X : List Int) (i : Int) (k : Nat) : List Int := if dn X i k then ins i (X.take k) else X.take k
theorem dn_next {X : List Int} {i : Int} {k : Nat} (h : k < X.length) : dn X i (k + 1) = (dn X i k || decide (i < X.getD k 0)) := by
  unfold dn
  rw [take_next h, List.any_append]
  simp
theorem dn_no {X : List Int} {i : Int} {k : Nat} (hi : i ∉ X) (h : dn X i k = false) : ∀ x ∈ X.take k, x < i := by
  intro x hx
  unfold dn at h
  rw [List.any_eq_false] at h
  have h1 := h x hx
  have h2 : x ≠ i := fun e => hi (by rw [← e]; exact List.mem_of_mem_take hx)
  simp at h1
  omega
theorem dn_yes {X : List Int} {i : Int} {k : Nat} (h : dn X i k = true) : ∃ x ∈ X.take k, ¬ x < i := by
  unfold dn at h
  rw [List.any_eq_true] at h
  obtain ⟨x, hx, h1⟩ := h
  exact ⟨x, hx, by simp at h1; omega⟩
theorem outW_yes {X : List Int} {i : Int} {k : Nat} (h : k < X.length) (hd : dn X i k = true) : dn X i (k + 1) = true ∧ outW X i (k + 1) = outW X i k ++ [X.getD k 0] := by
  have e : dn X i (k + 1) = true := by rw [dn_next h, hd]; rfl
  refine ⟨e, ?_⟩
  unfold outW
  rw [if_pos e, if_pos hd, take_next h, ins_app (dn_yes hd)]
theorem outW_now {X : List Int} {i : Int} {k : Nat} (hi : i ∉ X) (h : k < X.length) (hd : dn X i k = false) (hx : i < X.getD k 0) : dn X i (k + 1) = true ∧ outW X i (k + 1) = (outW X i k ++ [i]) ++ [X.getD k 0] := by
  have e : dn X i (k + 1) = true := by rw [dn_next h, hd]; simpa using hx
  refine ⟨e, ?_⟩
  unfold outW
  rw [if_pos e, if_neg (by rw [hd]; simp), take_next h, ins_mid (dn_no hi hd) (by omega)]
  simp
theorem outW_not {X : List Int} {i : Int} {k : Nat} (h : k < X.length) (hd : dn X i k = false) (hx : ¬ i < X.getD k 0) : dn X i (k + 1) = false ∧ outW X i (k + 1) = outW X i k ++ [X.getD k 0] := by
  have e : dn X i (k + 1) = false := by rw [dn_next h, hd]; simpa using hx
  refine ⟨e, ?_⟩
  unfold outW
  rw [if_neg (by rw [e]; simp), if_neg (by rw [hd]; simp), take_next h]
theorem outW_end {X : List Int} {i : Int} (hi : i ∉ X) : ins i X = if dn X i X.length then outW X i X.length else outW X i X.length ++ [i] := by
  unfold outW
  by_cases e : dn X i X.length = true
  · rw [if_pos e, if_pos e, List.take_length]
  · have e2 : dn X i X.length = false := by simpa using e
    rw [if_neg e, if_neg e, List.take_length]
    exact ins_end (by have := dn_no hi e2; rwa [List.take_length] at this)
theorem outW_len (X : List Int) (i : Int) (k : Nat) : (outW X i k).length ≤ X.length + 1 := by
  have h2 := List.length_take_le' k X
  unfold outW
  split
  · rw [ins_len]; omega
  · omega
theorem fold_len_le : ∀ (l X : List Int), (l.foldl withL X).length ≤ X.length + l.length
  | [], _ => by simp
  | i :: l, X => by
    have h := fold_len_le l (withL X i)
    have h1 := with_len X i
    rw [List.foldl_cons, List.length_cons]
    have h2 : (if adm i ∧ i ∉ X then 1 else 0 : Nat) ≤ 1 := by split <;> omega
    omega
theorem fold_next {l : List Int} {k : Nat} (X : List Int) (h : k < l.length) : (l.take (k + 1)).foldl withL X = withL ((l.take k).foldl withL X) (l.getD k 0) := by
  rw [take_next h, List.foldl_append]
  rfl
end Bx
end Go.Proofs.YtpappcmgnnmbeaaDoor
namespace Go.Proofs.YtpappcmgnnmbeaaDoor
set_option maxRecDepth 20000
open Go.RowKit
namespace Nc

set_option maxHeartbeats 400000 in
theorem ints_any (A B : Option Addr) (n m c d : Nat) (xs ys : List Int) (w : World) (ha : Wd.Sl w .i64 A n c xs) (hb : Wd.Sl w .i64 B m d ys) :
    Calls Tryd.prog 19 #[.slice A n c, .slice B m d] w fun e w' => e = .returned (.bool (decide (xs = ys))) ∧ ∃ q, w' = w.drewN q := by
  obtain ⟨rfl, hc, hx, hA, hr⟩ := ha
  obtain ⟨rfl, hd, hy, hB, hs⟩ := hb
  unfold maxLen at hx hy
  by_cases hl : xs.length = ys.length
  · have hne : ((xs.length : Int) != (ys.length : Int)) = false := by rw [hl]; simp
    have Hl := Lib.hid hl
    clear hl
    rcases Nat.eq_zero_or_pos xs.length with h0 | h0
    · have hx0 : xs = [] := List.eq_nil_of_length_eq_zero h0
      have hy0 : ys = [] := List.eq_nil_of_length_eq_zero (by rw [← Hl.out]; exact h0)
      subst hx0
      subst hy0
      go_enter Tryd.func19, Tryd.ntmps19
      go_wp2_with fail
      refine wp_loop_rounds 1 ?_
      rw [rounds_succ]
      go_wp2_with fail
      go_ret
      exact ⟨rfl, 0, rfl⟩
    · obtain ⟨a1, o1, rfl, _, hcx⟩ := hr.some_ h0
      obtain ⟨a2, o2, rfl, _, hcy⟩ := hs.some_ (by rw [← Hl.out]; exact h0)
      clear hr hs hA hB
      have hle1 : xs.length ≤ ys.length := by rw [Hl.out]; exact Nat.le_refl _
      have hle2 : ys.length ≤ xs.length := by rw [Hl.out]; exact Nat.le_refl _
      go_enter Tryd.func19, Tryd.ntmps19
      go_wp2_with fail
      go_loopw [5] (fun i wr => ∃ (k q : Nat), i = .int .i64 k ∧ k ≤ xs.length ∧ wr = w.drewN q ∧ xs.take k = ys.take k) (fun i _ => xs.length - (intOf i).toNat)
      case atStart => exact ⟨0, 0, rfl, Nat.zero_le _, rfl, rfl⟩
      case round =>
        obtain ⟨k, q, rfl, hk, rfl, ht⟩ := hrel
        have Ht := Lib.hid ht
        clear ht
        by_cases hlt : k < xs.length
        · have hlt2 : k < ys.length := by omega
          have c1 := hcx k hlt
          have c2 := hcy k hlt2
          obtain ⟨x, hx'⟩ : ∃ x, x = xs.getD k 0 := ⟨_, rfl⟩
          obtain ⟨y, hy'⟩ : ∃ y, y = ys.getD k 0 := ⟨_, rfl⟩
          rw [← hx'] at c1
          rw [← hy'] at c2
          have Hx := Lib.hid hx'
          have Hy := Lib.hid hy'
          clear hx' hy' hcx hcy
          have i1 : (k : Int) < (xs.length : Int) := by omega
          have i2 : (k : Int) < (ys.length : Int) := by omega
          by_cases hxy : x = y
          · have hbq : (x != y) = false := by rw [hxy]; simp
            have Hxy := Lib.hid hxy
            clear hxy
            go_wp2_with fail
            go_quiet (fail)
            go_wp2_with fail
            go_roundw
            case rel =>
              refine ⟨k + 1, _, by go_num, by omega, rfl, ?_⟩
              rw [List.take_succ_eq_append_getElem hlt, List.take_succ_eq_append_getElem hlt2, Ht.out]
              have e1 := Hx.out
              have e2 := Hy.out
              simp only [List.getD, List.getElem?_eq_getElem hlt, List.getElem?_eq_getElem hlt2, Option.getD_some] at e1 e2
              rw [← e1, ← e2, Hxy.out]
            case measure => simp [intOf]; omega
          · have hbq : (x != y) = true := by rw [bne_iff_ne]; exact hxy
            have Hxy := Lib.hid hxy
            clear hxy
            go_wp2_with fail
            go_quiet (fail)
            go_wp2_with fail
            go_ret
            refine ⟨?_, _, World.drewN_drewN _ _ _⟩
            rw [decide_eq_false (fun e => Hxy.out (by rw [Hx.out, Hy.out, e]))]
            rfl
        · go_wp2_with fail
          go_ret
          refine ⟨?_, _, rfl⟩
          have := Ht.out
          rw [List.take_of_length_le (by omega), List.take_of_length_le (by omega)] at this
          rw [decide_eq_true this]
          rfl
  · have hne : ((xs.length : Int) != (ys.length : Int)) = true := by rw [bne_iff_ne]; omega
    go_enter Tryd.func19, Tryd.ntmps19
    go_wp2_with fail
    go_ret
    refine ⟨?_, 0, rfl⟩
    rw [decide_eq_false (fun e => hl (by rw [e]))]
    rfl
theorem ints_yes (A B : Option Addr) (n m c d : Nat) (xs ys : List Int) (w : World) (ha : Wd.Sl w .i64 A n c xs) (hb : Wd.Sl w .i64 B m d ys) (h : xs = ys) :
    Calls Tryd.prog 19 #[.slice A n c, .slice B m d] w fun e w' => e = .returned (.bool true) ∧ Below w.heap.size w w' :=
  (ints_any A B n m c d xs ys w ha hb).mono fun _ _ ⟨he, q, hq⟩ => ⟨by rw [he, decide_eq_true h], by rw [hq]; exact Wd.below_drewN (Below.refl _ _) q⟩
end Nc
end Go.Proofs.YtpappcmgnnmbeaaDoor
namespace Go.Proofs.YtpappcmgnnmbeaaDoor
set_option maxRecDepth 20000
open Go.RowKit
namespace Bi
/-- A call of w ended in w' with a set of X, and nothing that was there has turned. -/
def Gv (S : World → Option Addr → Nat → Nat → List Int → Prop) (w : World) (X : List Int) (e : Ending) (w' : World) : Prop := ∃ A n c, e = .returned (.agg #[.slice A n c]) ∧ S w' A n c X ∧ Below w.heap.size w w'
/-- The first so many; all, if that is below 0. -/
def hd (k : Int) (X : List Int) : List Int := if k < 0 then X else X.take k.toNat
/-- A number of the machine's. -/
def I64 (i : Int) : Prop := -9223372036854775808 ≤ i ∧ i ≤ 9223372036854775807
/-- The table of math/bits lies in its variable as the program's text lays it. -/
def Tab (w : World) : Prop := ∀ j, j < 64 → w.cell? ⟨0, j, none⟩ = some (.int .u8 (Lib.deBruijn64tab.getD j 0))
theorem Tab.below {w w' : World} (h : Tab w) (hb : Below w.heap.size w w') : Tab w' := fun j hj => (hb.cell (World.block_lt_of_cell? w _ (h j hj))).trans (h j hj)
theorem hd_all (X : List Int) : hd (-1) X = X := rfl
end Bi
end Go.Proofs.YtpappcmgnnmbeaaDoor
namespace Go.Proofs.YtpappcmgnnmbeaaDoor
set_option maxRecDepth 20000
open Go.RowKit
namespace Bi
open Bs Bx
variable {S : World → Option Addr → Nat → Nat → List Int → Prop}
/-- The box of a set. -/
theorem box1 (w : World) (A : Option Addr) (n c : Nat) : (w.alloc (.cells #[.slice A n c] 54)).cell? ⟨w.heap.size, 0, none⟩ = some (.slice A n c) := by simp
end Bi
end Go.Proofs.YtpappcmgnnmbeaaDoor
namespace Go.Proofs.YtpappcmgnnmbeaaDoor
set_option maxRecDepth 20000
open Go.RowKit
namespace Bw
open Bs Bx Bi
theorem info_w : (Tryd.prog.info? 100).map (fun i => (i.zero, i.size, i.bytes)) = some (some (.int .u64 0), 1, 8) := by kernel_rfl
/-- The words L lie in a row of the call's own, that began behind B. -/
def Ow (w : World) (B : Nat) (v : Value) (L : List Nat) : Prop := w.ownsRow B 100 1 v L.length ((nat L).map (Value.int .u64))
/-- In w the set whose one field is the slice value A n c holds just X. -/
def St (w : World) (A : Option Addr) (n c : Nat) (X : List Int) : Prop := ∃ L, Wd.Sl w .u64 A n c (nat L) ∧ Wo L ∧ Tr L ∧ X = lstW L
theorem Ow.sl {w : World} {B : Nat} {v : Value} {L : List Nat} (h : Ow w B v L) : ∃ A n c, v = .slice A n c ∧ Wd.Sl w .u64 A n c (nat L) := by
  unfold Ow at h
  exact Wd.Sl.of_own h
theorem Ow.down {w : World} {B B' : Nat} {v : Value} {L : List Nat} (h : Ow w B v L) (hB : B' ≤ B) : Ow w B' v L := Wd.own_down h hB
theorem Ow.below {w w' : World} {B : Nat} {v : Value} {L : List Nat} (h : Ow w B v L) (hb : Below w.heap.size w w') : Ow w' B v L := Wd.own_below h hb
theorem Ow.nil (w : World) (B : Nat) : Ow w B (.slice none 0 0) [] := World.ownsRow_nil _ _ _ _
/-- A row with a word in it. -/
theorem Ow.shape {w : World} {B : Nat} {v : Value} {L : List Nat} (h : Ow w B v L) (hL : 0 < L.length) : ∃ g c, v = .slice (some ⟨g, 0, none⟩) L.length c ∧ B ≤ g ∧ g < w.heap.size ∧ L.length ≤ c ∧ c ≤ maxLen := by
  rcases h.2 with ⟨_, h0⟩ | ⟨g, cap, cur, rfl, hb, hg, h1, h2, _⟩
  · omega
  · exact ⟨g, cap, rfl, hb, (Array.getElem?_eq_some_iff.1 hg).1, h1, h2⟩
theorem Ow.cell {w : World} {B g c n : Nat} {L : List Nat} (h : Ow w B (.slice (some ⟨g, 0, none⟩) n c) L) (hn : n = L.length) (j : Nat) (hj : j < L.length) :
    w.cell? ⟨g, j, none⟩ = some (.int .u64 ((L.getD j 0 : Nat) : Int)) ∧ w.frozen? ⟨g, j, none⟩ = false := by
  subst hn
  rcases h.2 with ⟨hq, _⟩ | ⟨g', cap', cur, hq, hb, hg, h1, h2, h3, h4⟩
  · cases hq
  · simp only [Value.slice.injEq, Option.some.injEq, Addr.mk.injEq, and_true, true_and] at hq
    obtain ⟨rfl, rfl⟩ := hq
    refine ⟨?_, frozen_of_row w g j cur _ hg⟩
    have := World.ownsRow.cellAt h (g := g) (cap := c) j (by omega)
    rw [this, ← nat_getD]
    have hl : j < (nat L).length := by rw [nat_len]; exact hj
    simp [List.getD, List.getElem?_eq_getElem hl]
theorem Ow.set {w : World} {B g c n : Nat} {L : List Nat} (h : Ow w B (.slice (some ⟨g, 0, none⟩) n c) L) (hn : n = L.length) (j x : Nat) :
    Ow (w.setCell ⟨g, j, none⟩ (.int .u64 (x : Int))) B (.slice (some ⟨g, 0, none⟩) n c) (L.set j x) := by
  subst hn
  rcases h.2 with ⟨hq, _⟩ | ⟨g', cap', cur, hq, hb, hg, h1, h2, h3, h4⟩
  · cases hq
  · simp only [Value.slice.injEq, Option.some.injEq, Addr.mk.injEq, and_true, true_and] at hq
    obtain ⟨rfl, rfl⟩ := hq
    have hl : (L.set j x).length = L.length := by simp
    unfold Ow
    rw [hl]
    refine ⟨by simp [nat_len], .inr ⟨g, c, _, rfl, hb, heap_setCell_same w g j cur _ _ hg, h1, h2, by simpa using h3, ?_⟩⟩
    rw [Array.toList_setIfInBounds, List.take_set, h4, ← nat_set, List.map_set]
theorem zeros_list (m : Nat) : (Builtin.zeroCells (Value.int .u64 0).cells m).toList = (nat (List.replicate m 0)).map (Value.int .u64) := by
  rw [nat_rep]
  refine List.ext_getElem (by simp [Builtin.zeroCells, Value.cells]) fun i h1 h2 => ?_
  simp [Builtin.zeroCells, Value.cells, Nat.mod_one]
set_option maxHeartbeats 1000000 in
/-- append(words, make([]uint64, m)...), where words is of the call's own. -/
theorem run_zeros (w : World) (ty : TypeId) (B : Nat) (v : Value) (L : List Nat) (h : Ow w B v L) (m : Nat) (hm : 0 < m) (hL : L.length + m ≤ 100000) (hB : B ≤ w.heap.size) :
    ∃ v' w', (Builtin.append_ #[52, 3] ty #[v, .int .i64 (m : Int)]).run Tryd.prog w = .ok v' w' ∧ Ow w' B v' (L ++ List.replicate m 0) ∧ w.grownBy w' v.ownBlock := by
  obtain ⟨i, hi, hz, hs, hby⟩ := info_parts info_w
  have ht := Tryd.underlying52
  have hu := Tryd.underlying3
  have hzl := zeros_list m
  have hmw : IntKind.i64.wrap (m : Int) = (m : Int) := by rw [IntKind.wrap_i64]; omega
  have hm0 : ¬ ((m : Int) < 0) := by omega
  have hmne : m ≠ 0 := by omega
  have hlen : ((nat (L ++ List.replicate m 0)).map (Value.int .u64)).length = (L.length + m) * 1 := by simp [nat_len]
  have hxs : (nat (L ++ List.replicate m 0)).map (Value.int .u64) = (nat L).map (Value.int .u64) ++ (nat (List.replicate m 0)).map (Value.int .u64) := by rw [← nat_app, List.map_append]
  have key : ∀ (w1 : World) (old : Nat), old < L.length + m →
      (w.drew.alloc (.cells (((nat L).map (Value.int .u64)).toArray ++ (Builtin.zeroCells (Value.int .u64 0).cells m) ++ Builtin.zeroCells (Value.int .u64 0).cells (grownCap w (L.length + m) old 100 - (L.length + m))) 100)) = w1 →
      Ow w1 B (.slice (some ⟨w.heap.size, 0, none⟩) (L.length + m) (grownCap w (L.length + m) old 100)) (L ++ List.replicate m 0) ∧ ∀ row, w.grownBy w1 row := by
    rintro w1 old ho rfl
    have hge := grownCap_ge w (L.length + m) old 100
    have hcm : grownCap w (L.length + m) old 100 ≤ maxLen := grownCap_le_maxLen w (L.length + m) old 100 (by unfold maxLen; omega)
    refine ⟨?_, fun row => ⟨rfl, rfl, rfl, by simp, fun k hk _ => Below.heap_alloc w.drew _ k hk⟩⟩
    have hll : (L ++ List.replicate m (0 : Nat)).length = L.length + m := by simp
    unfold Ow
    rw [hll]
    refine ⟨hlen, .inr ⟨w.heap.size, _, _, rfl, hB, heap_alloc_new w.drew _, hge, hcm, ?_, ?_⟩⟩
    · simp [size_zeroCells, nat_len, Value.cells]
      omega
    · rw [Array.toList_append, Array.toList_append, hzl, hxs, ← hlen, ← hxs, List.take_append_of_le_length (Nat.le_refl _), List.take_length]

  have hbig : ¬ ((m : Int) * i.bytes > 2 ^ 48) := by rw [hby]; omega
  rcases h.2 with ⟨rfl, h0⟩ | ⟨g, cap, cur, rfl, hbg, hg, hnc, hcm, hcs, htake⟩
  · obtain rfl : L = [] := List.eq_nil_of_length_eq_zero h0
    obtain ⟨k1, k2⟩ := key _ 0 (by omega) rfl
    refine ⟨_, _, ?_, k1, k2 _⟩
    have h63' : ¬ (9223372036854775807 < (m : Int)) := by simp at hL; omega
    have h48' : ¬ (281474976710656 < Builtin.nextslicecap m 0 * i.bytes) := by rw [nextslicecap_zero hm, hby]; simp at hL; omega
    have hb2 : ¬ (281474976710656 < (m : Int) * i.bytes) := by rw [hby]; simp at hL; omega
    simp [Builtin.append_, run_underlying ht, run_underlying hu, sizeOf, typeInfo, zeroValue, hi, hz, hs, asInt, asIntOf, hmw, hm0, hmne, h63', h48', hb2, Question.forced, run_firstCells_none, newRow, grownCap, nat]
  · by_cases hroom : L.length + m ≤ cap
    · have hnl : ((nat (List.replicate m 0)).map (Value.int .u64)).length = m := by simp [nat_len]
      have hfit : L.length * 1 + ((nat (List.replicate m 0)).map (Value.int .u64)).length ≤ cur.size := by rw [hnl, hcs]; omega
      have h1 : ∀ u ∈ (nat (List.replicate m 0)).map (Value.int .u64), u.oneCell' = true := fun u hu => by
        obtain ⟨x, _, rfl⟩ := List.mem_map.1 hu
        rfl
      have hst := run_storeCells_at Tryd.prog g (L.length * 1) 100 _ 0 cur w hg (by simpa using hfit) h1
      rw [← hzl] at hst
      have hb2 : ¬ (281474976710656 < (m : Int) * i.bytes) := by rw [hby]; omega
      refine ⟨.slice (some ⟨g, 0, none⟩) (L.length + m) cap, w.setRow g (cur.toList.take (L.length * 1) ++ (nat (List.replicate m 0)).map (Value.int .u64) ++ cur.toList.drop (L.length * 1 + ((nat (List.replicate m 0)).map (Value.int .u64)).length)).toArray, ?_, ?_, ⟨rfl, rfl, rfl, by simp, fun k _ hk => setRow_other w g k _ (fun e => hk (by simp [Value.ownBlock, e]))⟩⟩
      · simp only [Nat.add_zero, Nat.mul_one] at hst
        simp [Builtin.append_, run_underlying ht, run_underlying hu, sizeOf, typeInfo, zeroValue, hi, hz, hs, asInt, asIntOf, hmw, hm0, hmne, hroom, hb2, Addr.add_lit]
        rw [hst, Result.andThen_ok, hzl]
        simp
      · have hll : (L ++ List.replicate m (0 : Nat)).length = L.length + m := by simp
        unfold Ow
        rw [hll]
        refine ⟨hlen, .inr ⟨g, cap, _, rfl, hbg, setRow_heap w g cur _ _ _ hg, hroom, hcm, ?_, ?_⟩⟩
        · simp only [List.size_toArray, List.length_append, List.length_take, List.length_drop, Array.length_toList, hnl]
          omega
        · rw [htake, hxs, ← hlen, hxs]
          exact List.take_left
    · obtain ⟨k1, k2⟩ := key _ cap (by omega) rfl
      refine ⟨_, _, ?_, k1, k2 _⟩
      have hb2 : ¬ (281474976710656 < (m : Int) * i.bytes) := by rw [hby]; omega
      have h63' : ¬ (9223372036854775807 < (L.length : Int) + (m : Int)) := by omega
      have h48' : ¬ (281474976710656 < Builtin.nextslicecap (L.length + m) cap * i.bytes) := by
        have := growslice_fits (need := L.length + m) (old := cap) (bytes := 8) (by omega) (by omega)
        rw [hby]; omega
      have holds : ∀ j u, ((nat L).map (Value.int .u64))[j]? = some u → w.cell? ((⟨g, 0, none⟩ : Addr).add j) = some u := World.ownsRow.cells h (g := g) rfl
      have hfo := run_firstCells_some (P := Tryd.prog) w.drew 1 L.length ⟨g, 0, none⟩ L.length cap ((nat L).map (Value.int .u64)) (by simp [nat_len]) (by simpa using holds)
      simp [Builtin.append_, run_underlying ht, run_underlying hu, sizeOf, typeInfo, zeroValue, hi, hz, hs, asInt, asIntOf, hmw, hm0, hmne, hroom, h63', h48', hb2, Question.forced, hfo, newRow, grownCap]
/-- The same as a step of a walk. -/
theorem wpList_zeros (w : World) {ops : Array Oper} {rest : List Oper} {o : Oper} {a : Act} {Q : Exit → Act → World → Prop} (hgd : o.guard = none) (s x : Operand)
    (ho : o.op = .call { callee := .builtin .append, args := #[s, x], argTypes := #[52, 3] }) (B : Nat) (v : Value) (L : List Nat) (hs : a.eval s = v) (h : Ow w B v L) (k : Int) (m : Nat) (hx : a.eval x = .int .i64 k) (hk : k = (m : Int)) (hm : 0 < m) (hL : L.length + m ≤ 100000) (hB : B ≤ w.heap.size)
    (hK : ∀ v' w', Ow w' B v' (L ++ List.replicate m 0) → w.grownBy w' v.ownBlock → wpList Tryd.prog ops Q rest (a.put o.dst v') w') : wpList Tryd.prog ops Q (o :: rest) a w := by
  subst hk
  refine wpList_plain hgd fun K hK' => ?_
  obtain ⟨v', w', hrun, h2, h3⟩ := run_zeros w o.type B v L h m hm hL hB
  unfold Oper.wp
  simp [execOp, ho, resolve, invoke, builtin, hs, hx, hrun, Result.andThen]
  exact hK' _ _ (hK v' w' h2 h3)
theorem bit_any (i : Nat) (hi : i < 65536) (w : World) :
    Calls Tryd.prog 54 #[.int .i64 (i : Int)] w fun e w' => e = .returned (.int .u64 ((2 ^ (i % 64) : Nat) : Int)) ∧ w' = w := by
  have hp := pow_lt i
  have e : IntKind.u64.wrap (2 ^ (i % 64)) = ((2 ^ (i % 64) : Nat) : Int) := by
    rw [IntKind.wrap_u64, show ((2 : Int) ^ (i % 64)) = ((2 ^ (i % 64) : Nat) : Int) from (Int.natCast_pow 2 (i % 64)).symm]
    exact Int.emod_eq_of_lt (Int.natCast_nonneg _) (Int.ofNat_lt.2 hp)
  have E := Lib.hid e
  clear e hp
  go_enter Tryd.func54, Tryd.ntmps54
  go_wp2
  go_ret
  exact ⟨by rw [← E.out]; rfl, rfl⟩
/-- slices.Clone of words: a row of the call's own. -/
theorem clone_any (A : Option Addr) (n c : Nat) (L : List Nat) (w : World) (hS : Wd.Sl w .u64 A n c (nat L)) (hL : L.length ≤ 1024) :
    Calls Tryd.prog 70 #[.slice A n c] w fun e w' => ∃ v, e = .returned v ∧ Ow w' w.heap.size v L ∧ Below w.heap.size w w' := by
  obtain ⟨i0, hi, hz0, hz1, hz2⟩ := info_parts info_w
  obtain ⟨hn, hc, hx, hA, hr⟩ := hS
  rw [nat_len] at hn
  subst hn
  rcases A with _ | ad
  · obtain rfl := hA rfl
    have h0 := hr.none_
    obtain rfl : L = [] := by cases L; rfl; simp [nat] at h0
    have hnil : ∀ (w : World) (n c : Nat), (binOp .eql 52 (.slice none n c) (.slice none 0 0)).run Tryd.prog w = .ok (.bool true) w := fun _ _ _ => by kernel_rfl
    clear h0
    go_enter Tryd.func70, Tryd.ntmps70
    go_wp2
    go_ret
    exact ⟨_, rfl, Ow.nil _ _, Below.refl _ _⟩
  · have hnil : ∀ (w : World) (n c : Nat) , (binOp .eql 52 (.slice (some ad) n c) (.slice none 0 0)).run Tryd.prog w = .ok (.bool false) w := fun _ _ _ => by kernel_rfl
    have hl := nat_len L
    go_enter Tryd.func70, Tryd.ntmps70
    go_wp2_with (at_builtin; refine Wd.wpList_app _ rfl (.tmp 5) (.tmp 6) 52 rfl w.heap.size 100 i0 _ .u64 8 Tryd.underlying52 hi hz0 hz1 hz2 rfl (.slice (some ⟨w.heap.size, 0, none⟩) 0 0) [] rfl (World.ownsRow_lit w #[] 0 (Nat.le_refl _) (by simp [maxLen]) rfl) w.heap.size _ _ c (nat L) rfl hl.symm (by simp) (hr.below ((Below.refl _ _).alloc (Nat.le_refl _) _)) (by simp; omega) (by simp [maxLen]; omega) (by simp) ?_; intro v' w1 hown hbel)
    go_ret
    exact ⟨v', rfl, by unfold Ow; rw [← hl]; simpa using hown, ((Below.refl _ _).alloc (Nat.le_refl _) _).grown hbel (by simp) (by simp [Value.ownBlock])⟩
end Bw
end Go.Proofs.YtpappcmgnnmbeaaDoor
