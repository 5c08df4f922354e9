/- What the reference of layer 9 does: With, Of, Or. Words on sets in memory, over any way to hold them; the table of math/bits in its variable. What the statements of layer 9 ask of sets in memory: contracts of the calls, as one word; the chapter's example; few. Rows of words of 64 bits that a call owns: append of zeros, a store; package bitset's bit and trimmed; slices.Clone. Package bitset's trimmed: the set that words describe, zeros at their end left out. Package bitset's include, where the words are of the call's own. Package bitset: Of, With, Has, Without. Package bitset: Has, Without. -/
import Derived.Lib.TrailingZeros
import Derived.Deep.RegionWith
import Derived.Deep.RegionHeld3
import Derived.Deep.QuietTactic
import Derived.BigQuiet
import Derived.WalkKit
import Derived.Laws.BitsAllLaws
import Derived.Laws.ShiftsVarLaws
import Derived.Lib.Hide
import Derived.StillTailTactics
import Derived.Test.YtoibpbnebcoafaaGreatPk26
import Derived.Test.YtoibpbnebcoafaaGreatPk02
import Derived.Test.YtoibpbnebcoafaaGreatProg
import Derived.Test.YtoibpbnebcoafaaGreatPk23
import Derived.Test.YtoibpbnebcoafaaGreatPk08
namespace Go.Proofs.YtoibpbnebcoafaaGreat
set_option maxRecDepth 20000
open Go.RowKit Go.Maps
namespace Bx
open Bs
theorem ins_mid {i : Int} : ∀ {P : List Int} (_ : ∀ x ∈ P, x < i) {x : Int} (_ : ¬ x < i) (Q : List Int), ins i (P ++ x :: Q) = P ++ i :: x :: Q
  | [], _, x, h, Q => by show ins i (x :: Q) = _; rw [ins, if_neg h]; rfl
  | a :: P, hP, x, h, Q => by
    show ins i (a :: (P ++ x :: Q)) = _
    rw [ins, if_pos (hP a (by simp)), ins_mid (fun y hy => hP y (by simp [hy])) h Q]
    rfl
theorem ins_end {i : Int} : ∀ {P : List Int} (_ : ∀ x ∈ P, x < i), ins i P = P ++ [i]
  | [], _ => rfl
  | a :: P, hP => by
    rw [ins, if_pos (hP a (by simp)), ins_end fun y hy => hP y (by simp [hy])]
    rfl
theorem ins_app {i : Int} : ∀ {P : List Int} (_ : ∃ x ∈ P, ¬ x < i) (Q : List Int), ins i (P ++ Q) = ins i P ++ Q
  | [], h, _ => by obtain ⟨x, hx, _⟩ := h; simp at hx
  | a :: P, h, Q => by
    show ins i (a :: (P ++ Q)) = _
    rw [ins, ins]
    by_cases q : a < i
    · rw [if_pos q, if_pos q, ins_app (P := P) (by
        obtain ⟨x, hx, hn⟩ := h
        rcases List.mem_cons.1 hx with e | e
        · rw [e] at hn; exact absurd q hn
        · exact ⟨x, e, hn⟩) Q]
      rfl
    · rw [if_neg q, if_neg q]
      rfl
/-- Has the number come already, behind k of them? What has come. -/
def dn (X : List Int) (i : Int) (k : Nat) : Bool := (X.take k).any fun x => decide (i < x)
def outW (X : List Int) (i : Int) (k : Nat) : List Int := if dn X i k then ins i (X.take k) else X.take k
theorem dn_next {X : List Int} {i : Int} {k : Nat} (h : k < X.length) : dn X i (k + 1) = (dn X i k || decide (i < X.getD k 0)) := by
  unfold dn
  rw [take_next h, List.any_append]
  simp
theorem dn_no {X : List Int} {i : Int} {k : Nat} (hi : i ∉ X) (h : dn X i k = false) : ∀ x ∈ X.take k, x < i := by
  intro x hx
  unfold dn at h
  rw [List.any_eq_false] at h
  have h1 := h x hx
  have h2 : x ≠ i := fun e => hi (by rw [← e]; exact List.mem_of_mem_take hx)
  simp at h1
  omega
theorem dn_yes {X : List Int} {i : Int} {k : Nat} (h : dn X i k = true) : ∃ x ∈ X.take k, ¬ x < i := by
  unfold dn at h
  rw [List.any_eq_true] at h
  obtain ⟨x, hx, h1⟩ := h
  exact ⟨x, hx, by simp at h1; omega⟩
theorem outW_yes {X : List Int} {i : Int} {k : Nat} (h : k < X.length) (hd : dn X i k = true) : dn X i (k + 1) = true ∧ outW X i (k + 1) = outW X i k ++ [X.getD k 0] := by
  have e : dn X i (k + 1) = true := by rw [dn_next h, hd]; rfl
  refine ⟨e, ?_⟩
  unfold outW
  rw [if_pos e, if_pos hd, take_next h, ins_app (dn_yes hd)]
theorem outW_now {X : List Int} {i : Int} {k : Nat} (hi : i ∉ X) (h : k < X.length) (hd : dn X i k = false) (hx : i < X.getD k 0) : dn X i (k + 1) = true ∧ outW X i (k + 1) = (outW X i k ++ [i]) ++ [X.getD k 0] := by
  have e : dn X i (k + 1) = true := by rw [dn_next h, hd]; simpa using hx
  refine ⟨e, ?_⟩
  unfold outW
  rw [if_pos e, if_neg (by rw [hd]; simp), take_next h, ins_mid (dn_no hi hd) (by omega)]
  simp
theorem outW_not {X : List Int} {i : Int} {k : Nat} (h : k < X.length) (hd : dn X i k = false) (hx : ¬ i < X.getD k 0) : dn X i (k + 1) = false ∧ outW X i (k + 1) = outW X i k ++ [X.getD k 0] := by
  have e : dn X i (k + 1) = false := by rw [dn_next h, hd]; simpa using hx
  refine ⟨e, ?_⟩
  unfold outW
  rw [if_neg (by rw [e]; simp), if_neg (by rw [hd]; simp), take_next h]
theorem outW_end {X : List Int} {i : Int} (hi : i ∉ X) : ins i X = if dn X i X.length then outW X i X.length else outW X i X.length ++ [i] := by
  unfold outW
  by_cases e : dn X i X.length = true
  · rw [if_pos e, if_pos e, List.take_length]
  · have e2 : dn X i X.length = false := by simpa using e
    rw [if_neg e, if_neg e, List.take_length]
    exact ins_end (by have := dn_no hi e2; rwa [List.take_length] at this)
theorem outW_len (X : List Int) (i : Int) (k : Nat) : (outW X i k).length ≤ X.length + 1 := by
  have h2 := List.length_take_le' k X
  unfold outW
  split
  · rw [ins_len]; omega
  · omega
theorem fold_len_le : ∀ (l X : List Int), (l.foldl withL X).length ≤ X.length + l.length
  | [], _ => by simp
  | i :: l, X => by
    have h := fold_len_le l (withL X i)
    have h1 := with_len X i
    rw [List.foldl_cons, List.length_cons]
    have h2 : (if adm i ∧ i ∉ X then 1 else 0 : Nat) ≤ 1 := by split <;> omega
    omega
theorem fold_next {l : List Int} {k : Nat} (X : List Int) (h : k < l.length) : (l.take (k + 1)).foldl withL X = withL ((l.take k).foldl withL X) (l.getD k 0) := by
  rw [take_next h, List.foldl_append]
  rfl
end Bx
end Go.Proofs.YtoibpbnebcoafaaGreat
namespace Go.Proofs.YtoibpbnebcoafaaGreat
set_option maxRecDepth 20000
open Go.RowKit
namespace Bi
/-- A call of w ended in w' with a set of X, and nothing that was there has turned. -/
def Gv (S : World → Option Addr → Nat → Nat → List Int → Prop) (w : World) (X : List Int) (e : Ending) (w' : World) : Prop := ∃ A n c, e = .returned (.agg #[.slice A n c]) ∧ S w' A n c X ∧ Below w.heap.size w w'
/-- The first so many; all, if that is below 0. -/
def hd (k : Int) (X : List Int) : List Int := if k < 0 then X else X.take k.toNat
/-- A number of the machine's. -/
def I64 (i : Int) : Prop := -9223372036854775808 ≤ i ∧ i ≤ 9223372036854775807
theorem hd_all (X : List Int) : hd (-1) X = X := rfl
end Bi
end Go.Proofs.YtoibpbnebcoafaaGreat
namespace Go.Proofs.YtoibpbnebcoafaaGreat
set_option maxRecDepth 20000
open Go.RowKit
namespace Bi
open Bs Bx
variable {S : World → Option Addr → Nat → Nat → List Int → Prop}
/-- The box of a set. -/
theorem box1 (w : World) (A : Option Addr) (n c : Nat) : (w.alloc (.cells #[.slice A n c] 139)).cell? ⟨w.heap.size, 0, none⟩ = some (.slice A n c) := by simp
end Bi
end Go.Proofs.YtoibpbnebcoafaaGreat
namespace Go.Proofs.YtoibpbnebcoafaaGreat
set_option maxRecDepth 20000
open Go.RowKit
namespace Bw
open Bs Bx Bi
theorem info_w : (Tryz.prog.info? 158).map (fun i => (i.zero, i.size, i.bytes)) = some (some (.int .u64 0), 1, 8) := by kernel_rfl
/-- The words L lie in a row of the call's own, that began behind B. -/
def Ow (w : World) (B : Nat) (v : Value) (L : List Nat) : Prop := w.ownsRow B 158 1 v L.length ((nat L).map (Value.int .u64))
/-- In w the set whose one field is the slice value A n c holds just X. -/
def St (w : World) (A : Option Addr) (n c : Nat) (X : List Int) : Prop := ∃ L, Wd.Sl w .u64 A n c (nat L) ∧ Wo L ∧ Tr L ∧ X = lstW L
theorem Ow.sl {w : World} {B : Nat} {v : Value} {L : List Nat} (h : Ow w B v L) : ∃ A n c, v = .slice A n c ∧ Wd.Sl w .u64 A n c (nat L) := by
  unfold Ow at h
  exact Wd.Sl.of_own h
theorem Ow.down {w : World} {B B' : Nat} {v : Value} {L : List Nat} (h : Ow w B v L) (hB : B' ≤ B) : Ow w B' v L := Wd.own_down h hB
theorem Ow.below {w w' : World} {B : Nat} {v : Value} {L : List Nat} (h : Ow w B v L) (hb : Below w.heap.size w w') : Ow w' B v L := Wd.own_below h hb
theorem Ow.nil (w : World) (B : Nat) : Ow w B (.slice none 0 0) [] := World.ownsRow_nil _ _ _ _
/-- A row with a word in it. -/
theorem Ow.shape {w : World} {B : Nat} {v : Value} {L : List Nat} (h : Ow w B v L) (hL : 0 < L.length) : ∃ g c, v = .slice (some ⟨g, 0, none⟩) L.length c ∧ B ≤ g ∧ g < w.heap.size ∧ L.length ≤ c ∧ c ≤ maxLen := by
  rcases h.2 with ⟨_, h0⟩ | ⟨g, cap, cur, rfl, hb, hg, h1, h2, _⟩
  · omega
  · exact ⟨g, cap, rfl, hb, (Array.getElem?_eq_some_iff.1 hg).1, h1, h2⟩
theorem Ow.cell {w : World} {B g c n : Nat} {L : List Nat} (h : Ow w B (.slice (some ⟨g, 0, none⟩) n c) L) (hn : n = L.length) (j : Nat) (hj : j < L.length) :
    w.cell? ⟨g, j, none⟩ = some (.int .u64 ((L.getD j 0 : Nat) : Int)) ∧ w.frozen? ⟨g, j, none⟩ = false := by
  subst hn
  rcases h.2 with ⟨hq, _⟩ | ⟨g', cap', cur, hq, hb, hg, h1, h2, h3, h4⟩
  · cases hq
  · simp only [Value.slice.injEq, Option.some.injEq, Addr.mk.injEq, and_true, true_and] at hq
    obtain ⟨rfl, rfl⟩ := hq
    refine ⟨?_, frozen_of_row w g j cur _ hg⟩
    have := World.ownsRow.cellAt h (g := g) (cap := c) j (by omega)
    rw [this, ← nat_getD]
    have hl : j < (nat L).length := by rw [nat_len]; exact hj
    simp [List.getD, List.getElem?_eq_getElem hl]
theorem Ow.set {w : World} {B g c n : Nat} {L : List Nat} (h : Ow w B (.slice (some ⟨g, 0, none⟩) n c) L) (hn : n = L.length) (j x : Nat) :
    Ow (w.setCell ⟨g, j, none⟩ (.int .u64 (x : Int))) B (.slice (some ⟨g, 0, none⟩) n c) (L.set j x) := by
  subst hn
  rcases h.2 with ⟨hq, _⟩ | ⟨g', cap', cur, hq, hb, hg, h1, h2, h3, h4⟩
  · cases hq
  · simp only [Value.slice.injEq, Option.some.injEq, Addr.mk.injEq, and_true, true_and] at hq
    obtain ⟨rfl, rfl⟩ := hq
    have hl : (L.set j x).length = L.length := by simp
    unfold Ow
    rw [hl]
    refine ⟨by simp [nat_len], .inr ⟨g, c, _, rfl, hb, heap_setCell_same w g j cur _ _ hg, h1, h2, by simpa using h3, ?_⟩⟩
    rw [Array.toList_setIfInBounds, List.take_set, h4, ← nat_set, List.map_set]
theorem zeros_list (m : Nat) : (Builtin.zeroCells (Value.int .u64 0).cells m).toList = (nat (List.replicate m 0)).map (Value.int .u64) := by
  rw [nat_rep]
  refine List.ext_getElem (by simp [Builtin.zeroCells, Value.cells]) fun i h1 h2 => ?_
  simp [Builtin.zeroCells, Value.cells, Nat.mod_one]
set_option maxHeartbeats 1000000 in
/-- append(words, make([]uint64, m)...), where words is of the call's own. -/
theorem run_zeros (w : World) (ty : TypeId) (B : Nat) (v : Value) (L : List Nat) (h : Ow w B v L) (m : Nat) (hm : 0 < m) (hL : L.length + m ≤ 100000) (hB : B ≤ w.heap.size) :
    ∃ v' w', (Builtin.append_ #[137, 3] ty #[v, .int .i64 (m : Int)]).run Tryz.prog w = .ok v' w' ∧ Ow w' B v' (L ++ List.replicate m 0) ∧ w.grownBy w' v.ownBlock := by
  obtain ⟨i, hi, hz, hs, hby⟩ := info_parts info_w
  have ht := Tryz.underlying137
  have hu := Tryz.underlying3
  have hzl := zeros_list m
  have hmw : IntKind.i64.wrap (m : Int) = (m : Int) := by rw [IntKind.wrap_i64]; omega
  have hm0 : ¬ ((m : Int) < 0) := by omega
  have hmne : m ≠ 0 := by omega
  have hlen : ((nat (L ++ List.replicate m 0)).map (Value.int .u64)).length = (L.length + m) * 1 := by simp [nat_len]
  have hxs : (nat (L ++ List.replicate m 0)).map (Value.int .u64) = (nat L).map (Value.int .u64) ++ (nat (List.replicate m 0)).map (Value.int .u64) := by rw [← nat_app, List.map_append]
  have key : ∀ (w1 : World) (old : Nat), old < L.length + m →
      (w.drew.alloc (.cells (((nat L).map (Value.int .u64)).toArray ++ (Builtin.zeroCells (Value.int .u64 0).cells m) ++ Builtin.zeroCells (Value.int .u64 0).cells (grownCap w (L.length + m) old 158 - (L.length + m))) 158)) = w1 →
      Ow w1 B (.slice (some ⟨w.heap.size, 0, none⟩) (L.length + m) (grownCap w (L.length + m) old 158)) (L ++ List.replicate m 0) ∧ ∀ row, w.grownBy w1 row := by
    rintro w1 old ho rfl
    have hge := grownCap_ge w (L.length + m) old 158
    have hcm : grownCap w (L.length + m) old 158 ≤ maxLen := grownCap_le_maxLen w (L.length + m) old 158 (by unfold maxLen; omega)
    refine ⟨?_, fun row => ⟨rfl, rfl, rfl, by simp, fun k hk _ => Below.heap_alloc w.drew _ k hk⟩⟩
    have hll : (L ++ List.replicate m (0 : Nat)).length = L.length + m := by simp
    unfold Ow
    rw [hll]
    refine ⟨hlen, .inr ⟨w.heap.size, _, _, rfl, hB, heap_alloc_new w.drew _, hge, hcm, ?_, ?_⟩⟩
    · simp [size_zeroCells, nat_len, Value.cells]
      omega
    · rw [Array.toList_append, Array.toList_append, hzl, hxs, ← hlen, ← hxs, List.take_append_of_le_length (Nat.le_refl _), List.take_length]

  have hbig : ¬ ((m : Int) * i.bytes > 2 ^ 48) := by rw [hby]; omega
  rcases h.2 with ⟨rfl, h0⟩ | ⟨g, cap, cur, rfl, hbg, hg, hnc, hcm, hcs, htake⟩
  · obtain rfl : L = [] := List.eq_nil_of_length_eq_zero h0
    obtain ⟨k1, k2⟩ := key _ 0 (by omega) rfl
    refine ⟨_, _, ?_, k1, k2 _⟩
    have h63' : ¬ (9223372036854775807 < (m : Int)) := by simp at hL; omega
    have h48' : ¬ (281474976710656 < Builtin.nextslicecap m 0 * i.bytes) := by rw [nextslicecap_zero hm, hby]; simp at hL; omega
    have hb2 : ¬ (281474976710656 < (m : Int) * i.bytes) := by rw [hby]; simp at hL; omega
    simp [Builtin.append_, run_underlying ht, run_underlying hu, sizeOf, typeInfo, zeroValue, hi, hz, hs, asInt, asIntOf, hmw, hm0, hmne, h63', h48', hb2, Question.forced, run_firstCells_none, newRow, grownCap, nat]
  · by_cases hroom : L.length + m ≤ cap
    · have hnl : ((nat (List.replicate m 0)).map (Value.int .u64)).length = m := by simp [nat_len]
      have hfit : L.length * 1 + ((nat (List.replicate m 0)).map (Value.int .u64)).length ≤ cur.size := by rw [hnl, hcs]; omega
      have h1 : ∀ u ∈ (nat (List.replicate m 0)).map (Value.int .u64), u.oneCell' = true := fun u hu => by
        obtain ⟨x, _, rfl⟩ := List.mem_map.1 hu
        rfl
      have hst := run_storeCells_at Tryz.prog g (L.length * 1) 158 _ 0 cur w hg (by simpa using hfit) h1
      rw [← hzl] at hst
      have hb2 : ¬ (281474976710656 < (m : Int) * i.bytes) := by rw [hby]; omega
      refine ⟨.slice (some ⟨g, 0, none⟩) (L.length + m) cap, w.setRow g (cur.toList.take (L.length * 1) ++ (nat (List.replicate m 0)).map (Value.int .u64) ++ cur.toList.drop (L.length * 1 + ((nat (List.replicate m 0)).map (Value.int .u64)).length)).toArray, ?_, ?_, ⟨rfl, rfl, rfl, by simp, fun k _ hk => setRow_other w g k _ (fun e => hk (by simp [Value.ownBlock, e]))⟩⟩
      · simp only [Nat.add_zero, Nat.mul_one] at hst
        simp [Builtin.append_, run_underlying ht, run_underlying hu, sizeOf, typeInfo, zeroValue, hi, hz, hs, asInt, asIntOf, hmw, hm0, hmne, hroom, hb2, Addr.add_lit]
        rw [hst, Result.andThen_ok, hzl]
        simp
      · have hll : (L ++ List.replicate m (0 : Nat)).length = L.length + m := by simp
        unfold Ow
        rw [hll]
        refine ⟨hlen, .inr ⟨g, cap, _, rfl, hbg, setRow_heap w g cur _ _ _ hg, hroom, hcm, ?_, ?_⟩⟩
        · simp only [List.size_toArray, List.length_append, List.length_take, List.length_drop, Array.length_toList, hnl]
          omega
        · rw [htake, hxs, ← hlen, hxs]
          exact List.take_left
    · obtain ⟨k1, k2⟩ := key _ cap (by omega) rfl
      refine ⟨_, _, ?_, k1, k2 _⟩
      have hb2 : ¬ (281474976710656 < (m : Int) * i.bytes) := by rw [hby]; omega
      have h63' : ¬ (9223372036854775807 < (L.length : Int) + (m : Int)) := by omega
      have h48' : ¬ (281474976710656 < Builtin.nextslicecap (L.length + m) cap * i.bytes) := by
        have := growslice_fits (need := L.length + m) (old := cap) (bytes := 8) (by omega) (by omega)
        rw [hby]; omega
      have holds : ∀ j u, ((nat L).map (Value.int .u64))[j]? = some u → w.cell? ((⟨g, 0, none⟩ : Addr).add j) = some u := World.ownsRow.cells h (g := g) rfl
      have hfo := run_firstCells_some (P := Tryz.prog) w.drew 1 L.length ⟨g, 0, none⟩ L.length cap ((nat L).map (Value.int .u64)) (by simp [nat_len]) (by simpa using holds)
      simp [Builtin.append_, run_underlying ht, run_underlying hu, sizeOf, typeInfo, zeroValue, hi, hz, hs, asInt, asIntOf, hmw, hm0, hmne, hroom, h63', h48', hb2, Question.forced, hfo, newRow, grownCap]
/-- The same as a step of a walk. -/
theorem wpList_zeros (w : World) {ops : Array Oper} {rest : List Oper} {o : Oper} {a : Act} {Q : Exit → Act → World → Prop} (hgd : o.guard = none) (s x : Operand)
    (ho : o.op = .call { callee := .builtin .append, args := #[s, x], argTypes := #[137, 3] }) (B : Nat) (v : Value) (L : List Nat) (hs : a.eval s = v) (h : Ow w B v L) (k : Int) (m : Nat) (hx : a.eval x = .int .i64 k) (hk : k = (m : Int)) (hm : 0 < m) (hL : L.length + m ≤ 100000) (hB : B ≤ w.heap.size)
    (hK : ∀ v' w', Ow w' B v' (L ++ List.replicate m 0) → w.grownBy w' v.ownBlock → wpList Tryz.prog ops Q rest (a.put o.dst v') w') : wpList Tryz.prog ops Q (o :: rest) a w := by
  subst hk
  refine wpList_plain hgd fun K hK' => ?_
  obtain ⟨v', w', hrun, h2, h3⟩ := run_zeros w o.type B v L h m hm hL hB
  unfold Oper.wp
  simp [execOp, ho, resolve, invoke, builtin, hs, hx, hrun, Result.andThen]
  exact hK' _ _ (hK v' w' h2 h3)
theorem bit_any (i : Nat) (hi : i < 65536) (w : World) :
    Calls Tryz.prog 157 #[.int .i64 (i : Int)] w fun e w' => e = .returned (.int .u64 ((2 ^ (i % 64) : Nat) : Int)) ∧ w' = w := by
  have hp := pow_lt i
  have e : IntKind.u64.wrap (2 ^ (i % 64)) = ((2 ^ (i % 64) : Nat) : Int) := by
    rw [IntKind.wrap_u64, show ((2 : Int) ^ (i % 64)) = ((2 ^ (i % 64) : Nat) : Int) from (Int.natCast_pow 2 (i % 64)).symm]
    exact Int.emod_eq_of_lt (Int.natCast_nonneg _) (Int.ofNat_lt.2 hp)
  have E := Lib.hid e
  clear e hp
  go_enter Tryz.func157, Tryz.ntmps157
  go_wp2
  go_ret
  exact ⟨by rw [← E.out]; rfl, rfl⟩
end Bw
end Go.Proofs.YtoibpbnebcoafaaGreat
namespace Go.Proofs.YtoibpbnebcoafaaGreat
set_option maxRecDepth 20000
open Go.RowKit
namespace Bw
open Bs Bx Bi
theorem res_cell1 {fn : Func} {p : Tmp} {ty : TypeId} (h : fn.results = #[.cell p ty]) (tmps : Array Value) (P : Program) (w : World) :
    (results fn tmps).run P w = ((asAddr (tmps.getD p undef)).run P w).andThen fun a w₁ => (loadVar ty a).run P w₁ := by
  simp only [results, h]
  simp [Sem.run_bind, Result.andThen]
theorem st_cut {w : World} {A : Option Addr} {n c k : Nat} {L : List Nat} (hS : Wd.Sl w .u64 A n c (nat L)) (hk : k ≤ n) (ht : Wo (L.take k) ∧ Tr (L.take k) ∧ lstW (L.take k) = lstW L) (o : Obj) : St (w.alloc o) A k c (lstW L) := by
  have h := (hS.below ((Below.refl w.heap.size w).alloc (Nat.le_refl _) o)).head k hk
  rw [nat_take] at h
  exact ⟨L.take k, h, ht.1, ht.2.1, ht.2.2.symm⟩
end Bw
end Go.Proofs.YtoibpbnebcoafaaGreat
namespace Go.Proofs.YtoibpbnebcoafaaGreat
set_option maxRecDepth 20000
open Go.RowKit
namespace Bw
open Bs Bx Bi
/-- What include answers. -/
def IncA (w : World) (B : Nat) (M : List Nat) (e : Ending) (w' : World) : Prop := ∃ v', e = .returned v' ∧ Ow w' B v' M ∧ Below B w w'
set_option maxHeartbeats 4000000 in
theorem include_any (B : Nat) (v : Value) (L : List Nat) (i : Int) (w : World) (h : Ow w B v L) (hw : Wo L) (hB : B ≤ w.heap.size) :
    Calls Tryz.prog 143 #[v, .int .i64 i] w (IncA w B (incI L i)) := by
  have Bit := Lib.hid fun k hk w => bit_any k hk w
  by_cases h0 : 0 ≤ i
  case neg =>
    have hlt : i < 0 := by omega
    rw [incI_out (by omega)]
    clear h0
    go_enter Tryz.func143, Tryz.ntmps143
    go_wp2
    go_ret
    exact ⟨_, rfl, h, Below.refl _ _⟩
  by_cases h1 : i < 65536
  case neg =>
    have hge : 65536 ≤ i := by omega
    rw [incI_out (by omega)]
    clear h1
    go_enter Tryz.func143, Tryz.ntmps143
    go_wp2
    go_ret
    exact ⟨_, rfl, h, Below.refl _ _⟩
  obtain ⟨k, hik⟩ : ∃ k : Nat, i = (k : Int) := ⟨i.toNat, by omega⟩
  have hk : k < 65536 := by omega
  have Ck := Lib.hid fun w => bit_any k hk w
  have hin0 : incI L i = incL L k := by rw [hik]; exact incI_in hk
  rw [← hik] at Ck
  obtain ⟨y, hy⟩ : ∃ y, y = 2 ^ (k % 64) := ⟨_, rfl⟩
  rw [← hy] at Ck
  have hy1 : y < 18446744073709551616 := by rw [hy]; exact pow_lt k
  obtain ⟨q, hq⟩ : ∃ q, q = k / 64 := ⟨_, rfl⟩
  have eq1 : i / 64 = (q : Int) := by omega
  have hq1 : q < 1024 := by omega
  have et : IntKind.i64.wrap (i.tdiv 64) = (q : Int) := by rw [Int.tdiv_eq_ediv_of_nonneg h0, eq1, IntKind.wrap_i64]; omega
  have Hin := Lib.hid (show incI L i = (pad L (q + 1)).set q (L.getD q 0 ||| y) by rw [hin0, hq, hy]; rfl)
  have Hor := Lib.hid (u64_or_nat (L.getD q 0) y (hw.2 q) hy1)
  have HW := Lib.hid hw
  clear hq hy hk hw Bit hy1 hin0 hik
  by_cases hqL : q < L.length
  · obtain ⟨g, c, rfl, hBg, hgw, hnc, hcm⟩ := h.shape (by omega)
    obtain ⟨hc, hf⟩ := h.cell rfl q hqL
    have Ho := Lib.hid h
    have Hqn := Lib.hid hqL
    obtain ⟨n, hn⟩ : ∃ n, n = L.length := ⟨_, rfl⟩
    obtain ⟨x, hx⟩ : ∃ x, x = L.getD q 0 := ⟨_, rfl⟩
    rw [← hn] at hnc hqL ⊢
    rw [← hx] at hc
    have hqi : (q : Int) < (n : Int) := by omega
    have hq0 : (0 : Int) ≤ (q : Int) := by omega
    have hn1 : n ≤ 1024 := by rw [hn]; exact HW.out.1
    have Hn := Lib.hid hn
    have Hx := Lib.hid hx
    unfold maxLen at hcm
    clear hn hx h
    go_enter Tryz.func143, Tryz.ntmps143
    go_wp2_with fail
    refine wp_region_still_tail 9 (by kernel_rfl) (by kernel_rfl) ?_
    simp only [List.take_succ_cons, List.take_zero, List.drop_succ_cons, List.drop_zero]
    repeat (first | still_call (Ck.out _) | still_step)
    try refine wpStill_nil ?_
    change wpList _ _ _ _ _ w.drew
    go_wp2_with fail
    go_ret
    rw [Hx.out, Hor.out, Hin.out, pad_le (by have := Hqn.out; omega), Hn.out]
    exact ⟨_, rfl, Ow.set (w := w.drew) Ho.out rfl q _, (Below.refl _ _).drew.setCell hBg _⟩
  · obtain ⟨A, n, c, rfl, hS⟩ := h.sl
    have hn : n = L.length := by rw [hS.len, nat_len]
    have hqi : ¬ (q : Int) + 1 ≤ (n : Int) := by omega
    have hcap := hS.cap
    have hmx := hS.max
    unfold maxLen at hmx
    have hn1 : n ≤ 1024 := by rw [hn]; exact HW.out.1
    have Hn := Lib.hid hn
    have Ho := Lib.hid h
    have HqL := Lib.hid hqL
    clear hn h hqL hS
    obtain ⟨m, hm⟩ : ∃ m, m = q + 1 - n := ⟨_, rfl⟩
    have em : (q : Int) + 1 - (n : Int) = (m : Int) := by omega
    have hm0 : 0 < m := by omega
    have Hm := Lib.hid hm
    clear hm
    go_enter Tryz.func143, Tryz.ntmps143
    go_wp2_with (at_builtin; refine wpList_zeros _ rfl (.tmp 21) (.tmp 22) rfl B (.slice A n c) L rfl Ho.out _ m rfl rfl hm0 (by have := Hn.out; have := Hm.out; omega) hB ?_; intro v1 w1 hO1 hG1)
    have hb1 : Below B w w1 := (Below.refl B w).grown hG1 hB fun k hk => (World.ownsRow.lt Ho.out k hk).1
    have hM : L ++ List.replicate m 0 = pad L (q + 1) := by unfold pad; rw [Hm.out, Hn.out]
    have hMl : (L ++ List.replicate m 0).length = q + 1 := by have := Hn.out; have := Hm.out; simp; omega
    obtain ⟨g, c1, rfl, hBg, hgw, hnc, hcm⟩ := hO1.shape (by omega)
    obtain ⟨hc, hf⟩ := hO1.cell rfl q (by omega)
    have Ho1 := Lib.hid hO1
    rw [hM, pad_getD] at hc
    obtain ⟨x, hx⟩ : ∃ x, x = L.getD q 0 := ⟨_, rfl⟩
    rw [← hx] at hc
    have Hx := Lib.hid hx
    have HM := Lib.hid hM
    obtain ⟨N, hN⟩ : ∃ N, N = (L ++ List.replicate m 0).length := ⟨_, rfl⟩
    rw [← hN] at hnc ⊢
    have hq0 : (0 : Int) ≤ (q : Int) := by omega
    have hq2 : (q : Int) < (N : Int) := by omega
    have HN := Lib.hid hN
    unfold maxLen at hcm
    clear hM hMl hx hO1 hG1 hN
    refine wp_region_still_tail 9 (by kernel_rfl) (by kernel_rfl) ?_
    simp only [List.take_succ_cons, List.take_zero, List.drop_succ_cons, List.drop_zero]
    repeat (first | still_call (Ck.out _) | still_step)
    try refine wpStill_nil ?_
    change wpList _ _ _ _ _ w1.drew
    go_wp2_with fail
    go_ret
    rw [Hx.out, Hor.out, Hin.out, ← HM.out]
    exact ⟨_, rfl, Ow.set (w := w1.drew) (by rw [HN.out]; exact Ho1.out) HN.out q _, hb1.drew.setCell hBg _⟩
end Bw
end Go.Proofs.YtoibpbnebcoafaaGreat
namespace Go.Proofs.YtoibpbnebcoafaaGreat
set_option maxRecDepth 20000
open Go.RowKit
namespace Bw
open Bs Bx Bi
theorem st_own {w : World} {A : Option Addr} {n c : Nat} {L : List Nat} {B : Nat} (h : Ow w B (.slice A n c) L) (hw : Wo L) (ht : Tr L) (o : Obj) : St (w.alloc o) A n c (lstW L) := by
  obtain ⟨A', n', c', e, hS⟩ := h.sl
  cases e
  exact ⟨L, hS.below ((Below.refl _ _).alloc (Nat.le_refl _) o), hw, ht, rfl⟩
theorem st_at {w : World} {A : Option Addr} {n c : Nat} {L : List Nat} {B : Nat} (h : Ow w B (.slice A n c) L) (hw : Wo L) (ht : Tr L) : St w A n c (lstW L) := by
  obtain ⟨A', n', c', e, hS⟩ := h.sl
  cases e
  exact ⟨L, hS, hw, ht, rfl⟩
theorem Ow.other {w : World} {B b : Nat} {v u : Value} {L : List Nat} (h : Ow w B v L) (hb : b < B) : Ow (w.setCell ⟨b, 0, none⟩ u) B v L := by
  have hg : w.grownBy (w.setCell ⟨b, 0, none⟩ u) (some b) := ⟨rfl, rfl, rfl, by simp, fun k _ hk => heap_setCell_other w _ k u (fun e => hk (by rw [e]))⟩
  refine World.ownsRow.kept h hg ?_
  cases hv : v.ownBlock with
  | none => exact .inl rfl
  | some g => exact .inr fun e => by have := (World.ownsRow.lt h g hv).1; cases e; omega
theorem take_next (l : List Int) (k : Nat) (h : k < l.length) : l.take (k + 1) = l.take k ++ [l.getD k 0] := by
  rw [List.take_succ_eq_append_getElem h]
  simp [List.getD, h]
set_option maxHeartbeats 4000000 in
theorem of_any (A : Option Addr) (n c : Nat) (l : List Int) (w : World) (hS : Wd.Sl w .i64 A n c l) (hn : n ≤ 1000000) :
    Calls Tryz.prog 126 #[.slice A n c] w (Gv St w (ofL l)) := by
  have hb0 := (Below.refl w.heap.size w).alloc (Nat.le_refl _) (.cells #[.slice none 0 0] 139)
  have x0 : Wd.Var (w.alloc (.cells #[.slice none 0 0] 139)) w.heap.size 139 (.slice none 0 0) := Wd.Var.new _ _ _
  have hsz : (w.alloc (.cells #[.slice none 0 0] 139)).heap.size = w.heap.size + 1 := by simp
  have hcap := hS.cap
  have hmx := hS.max
  unfold maxLen at hmx
  have HS := Lib.hid hS
  have Hl := Lib.hid hS.len
  have Inc := Lib.hid fun B v L i w h hw hB => include_any B v L i w h hw hB
  have hI0 : ∃ v, Value.slice none 0 0 = v ∧ Ow (w.alloc (.cells #[.slice none 0 0] 139)) (w.heap.size + 1) v [] := ⟨_, rfl, Ow.nil _ _⟩
  clear hS
  go_enter Tryz.func126, Tryz.ntmps126
  go_wp2_with fail
  go_loopw [3, 8] (fun v j wr => ∃ k : Nat, j = .int .i64 k ∧ k ≤ n ∧ Ow wr (w.heap.size + 1) v ((l.take k).foldl incI []) ∧ Below (w.heap.size + 1) (w.alloc (.cells #[.slice none 0 0] 139)) wr) (fun _ j _ => n - (intOf j).toNat)
  case atStart => exact ⟨0, rfl, Nat.zero_le _, by obtain ⟨v, rfl, h⟩ := hI0; exact h, Below.refl _ _⟩
  case round =>
    obtain ⟨k, rfl, hk, hO, hB⟩ := hrel
    by_cases hlt : k < n
    · have hkl : k < l.length := by rw [← Hl.out]; exact hlt
      have hS2 := HS.out.below (hb0.trans (hB.mono (by omega)))
      obtain ⟨b, o, hA, hb, hc⟩ := hS2.rd k hkl
      subst hA
      have hkI : (k : Int) < n := by omega
      have Ht := Lib.hid (take_next l k hkl)
      obtain ⟨x, hx⟩ : ∃ x, x = l.getD k 0 := ⟨_, rfl⟩
      rw [← hx] at hc
      have Hx := Lib.hid hx
      have C := Lib.hid (Inc.out (w.heap.size + 1) _ _ x _ hO (fold_wo _ _ wo_nil) (by rw [← hsz]; exact hB.size))
      have HO := Lib.hid hO
      clear hx hkl hS2 hO
      go_wp2_with fail
      refine C.out.mono ?_
      rintro e w2 ⟨v2, rfl, hO2, hB2⟩
      go_wp2_with fail
      go_roundw
      case rel => exact ⟨k + 1, by go_num, by omega, by rw [Ht.out, List.foldl_append, ← Hx.out]; exact hO2, hB.trans hB2⟩
      case measure => simp [intOf]; omega
    · have hkI : ¬ (k : Int) < n := by omega
      have x1 : Wd.Var _ w.heap.size 139 (.slice none 0 0) := (hB.block w.heap.size (by omega)).trans x0
      have c1 := x1.cell
      have f1 := x1.free
      rw [List.take_of_length_le (by rw [← Hl.out]; omega)] at hO
      obtain ⟨A1, n1, c1, rfl, -⟩ := hO.sl
      have HO := Lib.hid hO
      have HB := Lib.hid hB
      clear hO hB x0
      go_wp2_with fail
      have c2 := (Wd.Var.set (u := .slice A1 n1 c1) x1).cell
      (try simp only [Exit.inBlock, Exit.then])
      refine bodyPost_ret (v := .agg #[.slice A1 n1 c1]) ?_ rfl ⟨_, _, _, rfl, ?_, ?_⟩
      · rw [res_cell1 rfl]; go_simp
      · rw [← of_lst]
        exact st_at (HO.out.other (by omega)) (fold_wo _ _ wo_nil) (fold_tr _ _ tr_nil)
      · exact (hb0.trans (HB.out.mono (by omega))).setCell (Nat.le_refl _) _
end Bw
end Go.Proofs.YtoibpbnebcoafaaGreat
namespace Go.Proofs.YtoibpbnebcoafaaGreat
set_option maxRecDepth 20000
open Go.RowKit
namespace Bw
open Bs Bx Bi
/-- A variable of a struct is no word. -/
theorem sl_other {w : World} {A B : Option Addr} {n c m d : Nat} {ys : List Int} {p : Addr} {u : Value} (h : Wd.Sl w .u64 A n c ys) (hp : w.cell? p = some (.slice B m d)) : Wd.Sl (w.setCell p u) .u64 A n c ys :=
  ⟨h.len, h.cap, h.max, h.nil, fun j hj => by
    obtain ⟨b, o, e, hlt, hc⟩ := h.rd j hj
    exact ⟨b, o, e, by simpa using hlt, (World.cell?_setCell_other _ _ _ _ (by rintro rfl; rw [hc] at hp; cases hp)).trans hc⟩⟩
theorem St.other {w : World} {A B : Option Addr} {n c m d : Nat} {X : List Int} {p : Addr} {u : Value} (h : St w A n c X) (hp : w.cell? p = some (.slice B m d)) : St (w.setCell p u) A n c X := by
  obtain ⟨L, a, b, c, e⟩ := h
  exact ⟨L, sl_other a hp, b, c, e⟩
theorem not_mem_out {L : List Nat} {i : Int} (h : ¬ 0 ≤ i) : i ∉ lstW L := fun q => h ((mem_lstW L i).1 q).1
end Bw
end Go.Proofs.YtoibpbnebcoafaaGreat
