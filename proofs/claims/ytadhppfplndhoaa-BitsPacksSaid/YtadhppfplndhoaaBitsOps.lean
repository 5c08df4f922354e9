/- The bit operations of layer 2 (a bit put over bits that are 0; the lowest bit) as plain arithmetic; a row of numbers in memory, cell by cell. -/
import Derived.WalkKit
import Derived.WalkSmall
import Derived.Test.YtadhppfplndhoaaBitsMath
import Derived.Test.YtadhppfplndhoaaWords
namespace Go.Proofs.Ytadhppfplndhoaa
open Go.RowKit
namespace Bt

theorem nat64 (a : Nat) (h : a < 2 ^ 63) : (BitVec.ofInt 64 (a : Int)).toNat = a := by
  rw [BitVec.ofInt_natCast, BitVec.toNat_ofNat, Nat.mod_eq_of_lt (by omega)]
theorem i64_or_nat (a b : Nat) (ha : a < 2 ^ 63) (hb : b < 2 ^ 63) : bits BinOp.or IntKind.i64 (a : Int) (b : Int) = ((a ||| b : Nat) : Int) := by
  show IntKind.i64.wrap ((BitVec.ofInt 64 (a : Int) ||| BitVec.ofInt 64 (b : Int)).toNat : Int) = _
  rw [BitVec.toNat_or, nat64 a ha, nat64 b hb]
  have : a ||| b < 2 ^ 63 := Nat.or_lt_two_pow ha hb
  rw [IntKind.wrap_i64]
  omega
theorem i64_and_one (a : Int) (h0 : 0 ≤ a) (h1 : a ≤ 9223372036854775807) : bits BinOp.and IntKind.i64 a 1 = a % 2 := by
  obtain ⟨n, rfl⟩ := Int.eq_ofNat_of_zero_le h0
  show IntKind.i64.wrap ((BitVec.ofInt 64 (n : Int) &&& BitVec.ofInt 64 ((1 : Nat) : Int)).toNat : Int) = _
  rw [BitVec.toNat_and, nat64 n (by omega), nat64 1 (by omega), Nat.and_one_is_mod]
  rw [IntKind.wrap_i64]
  omega
/-- A bit that is put over bits that are 0 is added: in Nat. -/
theorem or_bit (r x b : Nat) (hx : x < 2 ^ r) : x ||| b * 2 ^ r = x + b * 2 ^ r := by
  rw [Nat.or_comm, nat_join r (b * 2 ^ r) x (Nat.mul_mod_left _ _) hx]
  omega
theorem bit_le {b : Int} (b0 : 0 ≤ b) (b1 : b ≤ 1) (r : Nat) : 0 ≤ b * 2 ^ r ∧ b * 2 ^ r ≤ 2 ^ r := by
  have := p0 r
  rcases (show b = 0 ∨ b = 1 by omega) with rfl | rfl <;> omega
theorem or64 (r : Nat) (x b : Int) (hr : r ≤ 61) (h0 : 0 ≤ x) (h1 : x < 2 ^ r) (b0 : 0 ≤ b) (b1 : b ≤ 1) : bits BinOp.or IntKind.i64 x (wrap64 (b * 2 ^ r)) = x + b * 2 ^ r := by
  have hb := bit_le b0 b1 r
  have hp := pup hr
  rw [show (2 : Int) ^ 61 = 2305843009213693952 by decide] at hp
  rw [IntWalk.wrap64_in _ ⟨by omega, by omega⟩]
  obtain ⟨n, rfl⟩ := Int.eq_ofNat_of_zero_le h0
  obtain ⟨c, rfl⟩ := Int.eq_ofNat_of_zero_le b0
  have e : ((2 : Int) ^ r) = ((2 ^ r : Nat) : Int) := by simp
  have e1 : (c : Int) * 2 ^ r = ((c * 2 ^ r : Nat) : Int) := by rw [e]; simp
  rw [e1] at hb ⊢
  rw [e] at h1 hb hp
  rw [i64_or_nat n (c * 2 ^ r) (by omega) (by omega), or_bit r n c (by omega)]
  omega
theorem or8 (r : Nat) (x b : Int) (hr : r ≤ 7) (h0 : 0 ≤ x) (h1 : x < 2 ^ r) (b0 : 0 ≤ b) (b1 : b ≤ 1) : bits BinOp.or IntKind.u8 x (wrap64 (b * 2 ^ r) % 256) = x + b * 2 ^ r := by
  have hb := bit_le b0 b1 r
  have hp := pup hr
  rw [show (2 : Int) ^ 7 = 128 by decide] at hp
  rw [IntWalk.wrap64_in _ ⟨by omega, by omega⟩, Int.emod_eq_of_lt (by omega) (by omega)]
  obtain ⟨n, rfl⟩ := Int.eq_ofNat_of_zero_le h0
  obtain ⟨c, rfl⟩ := Int.eq_ofNat_of_zero_le b0
  have e : ((2 : Int) ^ r) = ((2 ^ r : Nat) : Int) := by simp
  have e1 : (c : Int) * 2 ^ r = ((c * 2 ^ r : Nat) : Int) := by rw [e]; simp
  rw [e1] at hb ⊢
  rw [e] at h1 hb hp
  rw [u8_or_nat n (c * 2 ^ r) (by omega) (by omega), or_bit r n c (by omega)]
  omega
/-- Bits of 0 and 1 alone: 'one |= bit'. -/
theorem or01 (x b : Int) (h0 : 0 ≤ x) (h1 : x ≤ 1) (b0 : 0 ≤ b) (b1 : b ≤ 1) : bits BinOp.or IntKind.i64 x b = if x = 0 ∧ b = 0 then 0 else 1 := by
  rcases (show x = 0 ∨ x = 1 by omega) with rfl | rfl <;> rcases (show b = 0 ∨ b = 1 by omega) with rfl | rfl <;> decide
end Bt
namespace Wd
/-- Block g is a row of the numbers ys, of kind k and type e, that may be written. -/
def Row (w : World) (g : Nat) (k : IntKind) (e : TypeId) (ys : List Int) : Prop := w.heap[g]? = some (.cells (ys.map (Value.int k)).toArray e (0, 0))
/-- Block p is a variable of type e that holds v. -/
def Var (w : World) (p : Nat) (e : TypeId) (v : Value) : Prop := w.heap[p]? = some (.cells #[v] e (0, 0))
section
variable {w w' : World} {g p : Nat} {k : IntKind} {e : TypeId} {ys : List Int} {v u : Value}
theorem Row.lt (h : Row w g k e ys) : g < w.heap.size := lt_of_block h
theorem Row.cell (h : Row w g k e ys) (j : Nat) (hj : j < ys.length) : w.cell? ⟨g, j, none⟩ = some (.int k (ys.getD j 0)) := by
  rw [cell_of_row w g j _ e (0, 0) h]
  simp [List.getD, List.getElem?_eq_getElem hj]
theorem Row.free (h : Row w g k e ys) (j : Nat) : w.frozen? ⟨g, j, none⟩ = false := frozen_of_row w g j _ e h
theorem Row.set (h : Row w g k e ys) (j : Nat) (x : Int) : Row (w.setCell ⟨g, j, none⟩ (.int k x)) g k e (ys.set j x) := by
  unfold Row
  rw [heap_setCell_same w g j _ e _ h]
  simp [List.map_set]
theorem Row.other (h : Row w g k e ys) {a : Addr} (ha : g ≠ a.block) : Row (w.setCell a u) g k e ys := by
  unfold Row
  rw [heap_setCell_other w a g u ha]
  exact h
theorem Row.drew (h : Row w g k e ys) : Row w.drew g k e ys := h
theorem Row.alloc (h : Row w g k e ys) (o : Obj) : Row (w.alloc o) g k e ys := by
  unfold Row
  rw [Below.heap_alloc w o g h.lt]
  exact h
theorem Row.below {B : Nat} (h : Row w g k e ys) (hg : g < B) (hb : Below B w w') : Row w' g k e ys := by
  unfold Row
  rw [hb.block g hg]
  exact h
theorem Row.of_own {base n : Nat} (h : w.ownsRow base e 1 (.slice (some ⟨g, 0, none⟩) n n) n (ys.map (Value.int k))) : Row w g k e ys ∧ base ≤ g ∧ n = ys.length := by
  have hl : n = ys.length := by have := h.1; simpa using this.symm
  rcases h.2 with ⟨h', _⟩ | ⟨g', cap', cur, h', hb, hg, _, _, hs, ht⟩
  · simp at h'
  · simp only [Value.slice.injEq, Option.some.injEq, Addr.mk.injEq, and_true, true_and] at h'
    obtain ⟨rfl, rfl⟩ := h'
    refine ⟨?_, hb, hl⟩
    unfold Row
    rw [hg]
    have : cur = (ys.map (Value.int k)).toArray := by
      rw [← ht, List.take_of_length_le (by simp; omega)]
    rw [this]
theorem Row.sl (h : Row w g k e ys) (n : Nat) (hn : n = ys.length) (hm : n ≤ maxLen) : Sl w k (some ⟨g, 0, none⟩) n n ys :=
  ⟨hn, Nat.le_refl _, hm, by simp, Rd.mk h.lt fun j hj => by rw [Nat.zero_add]; exact h.cell j hj⟩
theorem Var.lt (h : Var w p e v) : p < w.heap.size := lt_of_block h
theorem Var.cell (h : Var w p e v) : w.cell? ⟨p, 0, none⟩ = some v := cell_of_one h
theorem Var.free (h : Var w p e v) : w.frozen? ⟨p, 0, none⟩ = false := free_of_one h
theorem Var.set (h : Var w p e v) : Var (w.setCell ⟨p, 0, none⟩ u) p e u := one_setCell h
theorem Var.other (h : Var w p e v) {a : Addr} (ha : p ≠ a.block) : Var (w.setCell a u) p e v := by
  unfold Var
  rw [heap_setCell_other w a p u ha]
  exact h
theorem Var.alloc (h : Var w p e v) (o : Obj) : Var (w.alloc o) p e v := by
  unfold Var
  rw [Below.heap_alloc w o p h.lt]
  exact h
theorem Var.new (w : World) (e : TypeId) (v : Value) : Var (w.alloc (.cells #[v] e)) w.heap.size e v := heap_alloc_new w _
theorem Var.drew (h : Var w p e v) : Var w.drew p e v := h
end
end Wd
end Go.Proofs.Ytadhppfplndhoaa
