/- Words on memory, over any program: a row of numbers that is known whole, a variable that a function has captured, an answer of a slice and an error's number, a slice cut at both ends, what make leaves. The bit operations of layer 2 (a bit put over bits that are 0; the lowest bit) as plain arithmetic. What package bits works with: words for widths, packed bytes and their errors. No walk. What packing and unpacking have to do with each other: plain facts on the answers of Pack, Unpack and At. The order of values in plain words: of two one comes first, or they are the same. No program, no memory. -/
import Derived.WalkKit
import Derived.WalkSmall
import Derived.WalkSpells
import Derived.Lib.Hide
import Derived.RegionTactic
import Derived.WideAt
import Derived.WideShapes
import Derived.Laws.Strings
import Derived.Test.YtoibpbnebcoafaaGreatPk02
import Derived.Test.YtoibpbnebcoafaaGreatProg
namespace Go.Proofs.YtoibpbnebcoafaaGreat
set_option maxRecDepth 20000
open Go.RowKit
namespace Wd
/-- Block g is a row of the numbers ys, of kind k and type e, that may be written. -/
def Row (w : World) (g : Nat) (k : IntKind) (e : TypeId) (ys : List Int) : Prop := w.heap[g]? = some (.cells (ys.map (Value.int k)).toArray e (0, 0))
/-- Block p is a variable of type e that holds v. -/
def Var (w : World) (p : Nat) (e : TypeId) (v : Value) : Prop := w.heap[p]? = some (.cells #[v] e (0, 0))
section
variable {w w' : World} {g p : Nat} {k : IntKind} {e : TypeId} {ys : List Int} {v u : Value}
theorem Row.lt (h : Row w g k e ys) : g < w.heap.size := lt_of_block h
theorem Row.cell (h : Row w g k e ys) (j : Nat) (hj : j < ys.length) : w.cell? ⟨g, j, none⟩ = some (.int k (ys.getD j 0)) := by
  rw [cell_of_row w g j _ e (0, 0) h]
  simp [List.getD, List.getElem?_eq_getElem hj]
theorem Row.free (h : Row w g k e ys) (j : Nat) : w.frozen? ⟨g, j, none⟩ = false := frozen_of_row w g j _ e h
theorem Row.set (h : Row w g k e ys) (j : Nat) (x : Int) : Row (w.setCell ⟨g, j, none⟩ (.int k x)) g k e (ys.set j x) := by
  unfold Row
  rw [heap_setCell_same w g j _ e _ h]
  simp [List.map_set]
theorem Row.other (h : Row w g k e ys) {a : Addr} (ha : g ≠ a.block) : Row (w.setCell a u) g k e ys := by
  unfold Row
  rw [heap_setCell_other w a g u ha]
  exact h
theorem Row.drew (h : Row w g k e ys) : Row w.drew g k e ys := h
theorem Row.alloc (h : Row w g k e ys) (o : Obj) : Row (w.alloc o) g k e ys := by
  unfold Row
  rw [Below.heap_alloc w o g h.lt]
  exact h
theorem Row.below {B : Nat} (h : Row w g k e ys) (hg : g < B) (hb : Below B w w') : Row w' g k e ys := by
  unfold Row
  rw [hb.block g hg]
  exact h
theorem Row.of_own {base n : Nat} (h : w.ownsRow base e 1 (.slice (some ⟨g, 0, none⟩) n n) n (ys.map (Value.int k))) : Row w g k e ys ∧ base ≤ g ∧ n = ys.length := by
  have hl : n = ys.length := by have := h.1; simpa using this.symm
  rcases h.2 with ⟨h', _⟩ | ⟨g', cap', cur, h', hb, hg, _, _, hs, ht⟩
  · simp at h'
  · simp only [Value.slice.injEq, Option.some.injEq, Addr.mk.injEq, and_true, true_and] at h'
    obtain ⟨rfl, rfl⟩ := h'
    refine ⟨?_, hb, hl⟩
    unfold Row
    rw [hg]
    have : cur = (ys.map (Value.int k)).toArray := by
      rw [← ht, List.take_of_length_le (by simp; omega)]
    rw [this]
theorem Row.sl (h : Row w g k e ys) (n : Nat) (hn : n = ys.length) (hm : n ≤ maxLen) : Sl w k (some ⟨g, 0, none⟩) n n ys :=
  ⟨hn, Nat.le_refl _, hm, by simp, Rd.mk h.lt fun j hj => by rw [Nat.zero_add]; exact h.cell j hj⟩
theorem Var.lt (h : Var w p e v) : p < w.heap.size := lt_of_block h
theorem Var.cell (h : Var w p e v) : w.cell? ⟨p, 0, none⟩ = some v := cell_of_one h
theorem Var.free (h : Var w p e v) : w.frozen? ⟨p, 0, none⟩ = false := free_of_one h
theorem Var.set (h : Var w p e v) : Var (w.setCell ⟨p, 0, none⟩ u) p e u := one_setCell h
theorem Var.other (h : Var w p e v) {a : Addr} (ha : p ≠ a.block) : Var (w.setCell a u) p e v := by
  unfold Var
  rw [heap_setCell_other w a p u ha]
  exact h
theorem Var.alloc (h : Var w p e v) (o : Obj) : Var (w.alloc o) p e v := by
  unfold Var
  rw [Below.heap_alloc w o p h.lt]
  exact h
theorem Var.new (w : World) (e : TypeId) (v : Value) : Var (w.alloc (.cells #[v] e)) w.heap.size e v := heap_alloc_new w _
theorem Var.drew (h : Var w p e v) : Var w.drew p e v := h
end
/-- A call of w ended in w' with a slice of the numbers ys and an error's number, and nothing that was there has turned. -/
def Out2 (w : World) (k : IntKind) (ys : List Int) (er : Int) (e : Ending) (w' : World) : Prop :=
  ∃ A n c, e = .returned (.tuple #[.slice A n c, .int .i64 er]) ∧ Sl w' k A n c ys ∧ Below w.heap.size w w'
theorem Out2.err (w w' : World) (k : IntKind) (er : Int) (h : Below w.heap.size w w') : Out2 w k [] er (.returned (.tuple #[.slice none 0 0, .int .i64 er])) w' := ⟨none, 0, 0, rfl, Sl.none_ _ _, h⟩
/-- The cut 's[lo:hi]'. -/
theorem Sl.mid {w : World} {k : IntKind} {A : Option Addr} {n c : Nat} {ys : List Int} (h : Sl w k A n c ys) (lo hi : Nat) (h1 : lo ≤ hi) (h2 : hi ≤ n) : Sl w k (if c = lo then A else A.map (·.add lo)) (hi - lo) (c - lo) ((ys.drop lo).take (hi - lo)) :=
  (h.cut lo (by omega)).head (hi - lo) (by omega)
theorem Sl.mid' {w : World} {k : IntKind} {A : Option Addr} {n c : Nat} {ys : List Int} (h : Sl w k A n c ys) (lo hi : Nat) (h1 : lo ≤ hi) (h2 : hi ≤ n) (hc : c ≠ lo) : Sl w k (A.map (·.add lo)) (hi - lo) (c - lo) ((ys.drop lo).take (hi - lo)) := by
  have := h.mid lo hi h1 h2
  rwa [if_neg hc] at this
theorem made_zero (k : IntKind) (n : Nat) : (madeCells (Value.int k 0).cells (n * 1)).toList = (List.replicate n (0 : Int)).map (Value.int k) := by
  refine List.ext_getElem (by simp [madeCells]) fun i h1 h2 => ?_
  simp [madeCells, Value.cells, Nat.mod_one]
def lenOf : Value → Nat | .slice _ n _ => n | _ => 0
theorem own_slice {w : World} {B : Nat} {e : TypeId} {k : IntKind} {v : Value} {t : Nat} {xs : List Int} (h : w.ownsRow B e 1 v xs.length (xs.map (Value.int k))) (ht : xs.length = t) : ∃ A c, v = .slice A t c := by
  obtain ⟨_, A, c, rfl, _⟩ := own_form h
  exact ⟨A, c, by rw [ht]⟩
end Wd
end Go.Proofs.YtoibpbnebcoafaaGreat
namespace Go.Proofs.YtoibpbnebcoafaaGreat
set_option maxRecDepth 20000
open Go.RowKit
namespace Bt

theorem nat64 (a : Nat) (h : a < 2 ^ 63) : (BitVec.ofInt 64 (a : Int)).toNat = a := by
  rw [BitVec.ofInt_natCast, BitVec.toNat_ofNat, Nat.mod_eq_of_lt (by omega)]
theorem i64_or_nat (a b : Nat) (ha : a < 2 ^ 63) (hb : b < 2 ^ 63) : bits BinOp.or IntKind.i64 (a : Int) (b : Int) = ((a ||| b : Nat) : Int) := by
  show IntKind.i64.wrap ((BitVec.ofInt 64 (a : Int) ||| BitVec.ofInt 64 (b : Int)).toNat : Int) = _
  rw [BitVec.toNat_or, nat64 a ha, nat64 b hb]
  have : a ||| b < 2 ^ 63 := Nat.or_lt_two_pow ha hb
  rw [IntKind.wrap_i64]
  omega
theorem i64_and_one (a : Int) (h0 : 0 ≤ a) (h1 : a ≤ 9223372036854775807) : bits BinOp.and IntKind.i64 a 1 = a % 2 := by
  obtain ⟨n, rfl⟩ := Int.eq_ofNat_of_zero_le h0
  show IntKind.i64.wrap ((BitVec.ofInt 64 (n : Int) &&& BitVec.ofInt 64 ((1 : Nat) : Int)).toNat : Int) = _
  rw [BitVec.toNat_and, nat64 n (by omega), nat64 1 (by omega), Nat.and_one_is_mod]
  rw [IntKind.wrap_i64]
  omega
/-- A bit that is put over bits that are 0 is added: in Nat. -/
theorem or_bit (r x b : Nat) (hx : x < 2 ^ r) : x ||| b * 2 ^ r = x + b * 2 ^ r := by
  rw [Nat.or_comm, nat_join r (b * 2 ^ r) x (Nat.mul_mod_left _ _) hx]
  omega
theorem bit_le {b : Int} (b0 : 0 ≤ b) (b1 : b ≤ 1) (r : Nat) : 0 ≤ b * 2 ^ r ∧ b * 2 ^ r ≤ 2 ^ r := by
  have := p0 r
  rcases (show b = 0 ∨ b = 1 by omega) with rfl | rfl <;> omega
theorem or64 (r : Nat) (x b : Int) (hr : r ≤ 61) (h0 : 0 ≤ x) (h1 : x < 2 ^ r) (b0 : 0 ≤ b) (b1 : b ≤ 1) : bits BinOp.or IntKind.i64 x (wrap64 (b * 2 ^ r)) = x + b * 2 ^ r := by
  have hb := bit_le b0 b1 r
  have hp := pup hr
  rw [show (2 : Int) ^ 61 = 2305843009213693952 by decide] at hp
  rw [IntWalk.wrap64_in _ ⟨by omega, by omega⟩]
  obtain ⟨n, rfl⟩ := Int.eq_ofNat_of_zero_le h0
  obtain ⟨c, rfl⟩ := Int.eq_ofNat_of_zero_le b0
  have e : ((2 : Int) ^ r) = ((2 ^ r : Nat) : Int) := by simp
  have e1 : (c : Int) * 2 ^ r = ((c * 2 ^ r : Nat) : Int) := by rw [e]; simp
  rw [e1] at hb ⊢
  rw [e] at h1 hb hp
  rw [i64_or_nat n (c * 2 ^ r) (by omega) (by omega), or_bit r n c (by omega)]
  omega
theorem or8 (r : Nat) (x b : Int) (hr : r ≤ 7) (h0 : 0 ≤ x) (h1 : x < 2 ^ r) (b0 : 0 ≤ b) (b1 : b ≤ 1) : bits BinOp.or IntKind.u8 x (wrap64 (b * 2 ^ r) % 256) = x + b * 2 ^ r := by
  have hb := bit_le b0 b1 r
  have hp := pup hr
  rw [show (2 : Int) ^ 7 = 128 by decide] at hp
  rw [IntWalk.wrap64_in _ ⟨by omega, by omega⟩, Int.emod_eq_of_lt (by omega) (by omega)]
  obtain ⟨n, rfl⟩ := Int.eq_ofNat_of_zero_le h0
  obtain ⟨c, rfl⟩ := Int.eq_ofNat_of_zero_le b0
  have e : ((2 : Int) ^ r) = ((2 ^ r : Nat) : Int) := by simp
  have e1 : (c : Int) * 2 ^ r = ((c * 2 ^ r : Nat) : Int) := by rw [e]; simp
  rw [e1] at hb ⊢
  rw [e] at h1 hb hp
  rw [u8_or_nat n (c * 2 ^ r) (by omega) (by omega), or_bit r n c (by omega)]
  omega
/-- Bits of 0 and 1 alone: 'one |= bit'. -/
theorem or01 (x b : Int) (h0 : 0 ≤ x) (h1 : x ≤ 1) (b0 : 0 ≤ b) (b1 : b ≤ 1) : bits BinOp.or IntKind.i64 x b = if x = 0 ∧ b = 0 then 0 else 1 := by
  rcases (show x = 0 ∨ x = 1 by omega) with rfl | rfl <;> rcases (show b = 0 ∨ b = 1 by omega) with rfl | rfl <;> decide
end Bt
end Go.Proofs.YtoibpbnebcoafaaGreat
namespace Go.Proofs.YtoibpbnebcoafaaGreat
set_option maxRecDepth 20000
open Go.RowKit
namespace Bc

theorem byte_bit (x : Int) (r : Nat) (h0 : 0 ≤ x) (h1 : x ≤ 255) : bits BinOp.and IntKind.i64 (x / 2 ^ r) 1 = x / 2 ^ r % 2 := by
  have hp := Bt.p0 r
  have h2 := Int.ediv_nonneg h0 (show (0 : Int) ≤ 2 ^ r by omega)
  have h3 := Int.ediv_le_self (2 ^ r) h0
  exact Bt.i64_and_one _ h2 (by omega)
theorem num_bit (x : Int) (r : Nat) (h0 : 0 ≤ x) (h1 : x ≤ 9223372036854775807) : bits BinOp.and IntKind.i64 (x / 2 ^ r) 1 = x / 2 ^ r % 2 := by
  have hp := Bt.p0 r
  have h2 := Int.ediv_nonneg h0 (show (0 : Int) ≤ 2 ^ r by omega)
  have h3 := Int.ediv_le_self (2 ^ r) h0
  exact Bt.i64_and_one _ h2 (by omega)

theorem ret_int {k : IntKind} {a b : Int} (h : a = b) : Ending.returned (.int k a) = .returned (.int k b) := by rw [h]
theorem prod_le (n k : Nat) (h1 : n ≤ 4096) (h2 : k ≤ 62) : (n : Int) * (k : Int) ≤ 253952 ∧ 0 ≤ (n : Int) * (k : Int) := by
  have := Nat.mul_le_mul h1 h2
  exact ⟨by omega, by omega⟩
/-- The number of bits of a number. -/
def wid (n : Int) : Nat := if h : 0 < n then wid (n / 2) + 1 else 0
termination_by n.toNat
decreasing_by omega
theorem wid_lo (n : Int) (h : n ≤ 0) : wid n = 0 := by rw [wid, dif_neg (by omega)]
theorem wid_hi (n : Int) (h : 0 < n) : wid n = wid (n / 2) + 1 := by rw [wid, dif_pos h]
theorem wid_le (k : Nat) : ∀ n : Int, (wid n ≤ k ↔ n < 2 ^ k) := by
  induction k with
  | zero =>
    intro n
    by_cases h : 0 < n
    · rw [wid_hi n h]; simp; omega
    · rw [wid_lo n (by omega)]; simp; omega
  | succ k ih =>
    intro n
    by_cases h : 0 < n
    · rw [wid_hi n h, Nat.add_le_add_iff_right, ih, Int.pow_succ]; omega
    · have := Bt.p0 (k + 1)
      rw [wid_lo n (by omega)]; omega
theorem wid_63 (n : Int) (h : n ≤ 9223372036854775807) : wid n ≤ 63 := by
  rw [wid_le, show (2 : Int) ^ 63 = 9223372036854775808 by decide]; omega

theorem getD_bit {wd : Nat} {l : List Int} (h : Bt.InR wd l) (j : Nat) (hj : j < wd * l.length) : l.getD (j / wd) 0 / 2 ^ (j % wd) % 2 = Bt.ofD wd l / 2 ^ j % 2 := by
  have hw : 0 < wd := by
    rcases Nat.eq_zero_or_pos wd with h0 | h0
    · rw [h0, Nat.zero_mul] at hj; omega
    · exact h0
  have h1 : j / wd < l.length := Nat.div_lt_of_lt_mul hj
  have h2 := Bt.bit_dig wd (Bt.ofD wd l) (j / wd) (j % wd) (Nat.mod_lt _ hw)
  rw [Nat.div_add_mod, Bt.dig_ofD h _ h1] at h2
  exact h2.symm
theorem bit01 (v : Int) : 0 ≤ v % 2 ∧ v % 2 ≤ 1 := by omega

theorem mul_cast (i wd : Nat) : (i : Int) * (wd : Int) = ((i * wd : Nat) : Int) := by simp

/-- What At answers. -/
def AtOk (n : Nat) (i wd : Int) : Prop := 0 ≤ wd ∧ wd ≤ 62 ∧ 0 ≤ i ∧ i ≤ 1099511627776 ∧ (i + 1) * wd ≤ 8 * (n : Int)
instance (n : Nat) (i wd : Int) : Decidable (AtOk n i wd) := by unfold AtOk; infer_instance
def atV (bs : List Int) (i wd : Int) : Int := if AtOk bs.length i wd then Bt.dig wd.toNat (Bt.ofD 8 bs) i.toNat else 0

theorem info_int : (Tryz.prog.info? 3).map (fun i => (i.zero, i.size, i.bytes)) = some (some (.int .i64 0), 1, 8) := by kernel_rfl
theorem info_u8 : (Tryz.prog.info? 5).map (fun i => (i.zero, i.size, i.bytes)) = some (some (.int .u8 0), 1, 1) := by kernel_rfl
theorem toD_zero (wd n : Nat) (V : Int) : Bt.toD wd n (V % 2 ^ 0) = List.replicate n 0 := by
  have : V % 2 ^ 0 = 0 := by simp
  rw [this]
  refine Bt.ext_getD (by simp [Bt.toD_len]) fun i hi => ?_
  rw [Bt.toD_len] at hi
  rw [Bt.toD_get _ _ _ _ hi]
  simp [Bt.dig, List.getD, hi]
/-- The error's number, and the numbers, that Unpack answers. -/
def unE (bs : List Int) (n wd : Int) : Int :=
  if wd < 0 ∨ 62 < wd ∨ n < 0 then 1 else if 4096 < n then 2 else if bs.length < (n.toNat * wd.toNat + 7) / 8 then 6
  else if (n.toNat * wd.toNat + 7) / 8 < bs.length ∨ Bt.ofD 8 bs / 2 ^ (n.toNat * wd.toNat) ≠ 0 then 7 else 0
def unL (bs : List Int) (n wd : Int) : List Int := if unE bs n wd = 0 then Bt.toD wd.toNat n.toNat (Bt.ofD 8 bs) else []

theorem pow62 (wd : Nat) (h : wd ≤ 62) : (2 : Int) ^ wd ≤ 4611686018427387904 ∧ 0 < (2 : Int) ^ wd := by
  have h1 := Bt.pup h
  rw [show (2 : Int) ^ 62 = 4611686018427387904 by decide] at h1
  exact ⟨h1, Bt.p0 wd⟩
theorem i64_of_fits {l : List Int} (h : Wd.Fits .i64 l) (j : Nat) (hj : j < l.length) : -9223372036854775808 ≤ l.getD j 0 ∧ l.getD j 0 ≤ 9223372036854775807 := by
  have := h (l.getD j 0) (by simp [List.getD, hj])
  simpa [Lit.wf, show IntKind.i64.min = -9223372036854775808 from rfl] using this

/-- The error's number, and the bytes, that Pack answers. -/
def inB (wd : Nat) (l : List Int) : Bool := l.all fun x => decide (0 ≤ x ∧ x < 2 ^ wd)
theorem inB_iff (wd : Nat) (l : List Int) : inB wd l = true ↔ Bt.InR wd l := by simp [inB, Bt.InR]
def packE (l : List Int) (wd : Int) : Int := if wd < 0 ∨ 62 < wd then 1 else if 4096 < l.length then 2 else if inB wd.toNat l then 0 else 1
def packL (l : List Int) (wd : Int) : List Int := if packE l wd = 0 then Bt.toD 8 ((l.length * wd.toNat + 7) / 8) (Bt.ofD wd.toNat l) else []

end Bc
end Go.Proofs.YtoibpbnebcoafaaGreat
namespace Go.Proofs.YtoibpbnebcoafaaGreat
set_option maxRecDepth 20000
open Go.RowKit
namespace Bc

theorem packE_ok {W : Nat} {l : List Int} (hW : W ≤ 62) (hl : l.length ≤ 4096) (h : Bt.InR W l) : packE l W = 0 := by
  unfold packE
  rw [if_neg (by omega), if_neg (by omega)]
  exact if_pos ((inB_iff W l).2 h)
theorem packL_ok {W : Nat} {l : List Int} (hW : W ≤ 62) (hl : l.length ≤ 4096) (h : Bt.InR W l) : packL l W = Bt.toD 8 ((l.length * W + 7) / 8) (Bt.ofD W l) := by
  rw [packL, packE_ok hW hl h, if_pos rfl]
  rfl
theorem packE_inv {wd : Int} {l : List Int} (h : packE l wd = 0) : ∃ W : Nat, wd = W ∧ W ≤ 62 ∧ l.length ≤ 4096 ∧ Bt.InR W l := by
  unfold packE at h
  by_cases h1 : wd < 0 ∨ 62 < wd
  · rw [if_pos h1] at h; omega
  · rw [if_neg h1] at h
    by_cases h2 : 4096 < l.length
    · rw [if_pos h2] at h; omega
    · rw [if_neg h2] at h
      by_cases h3 : inB wd.toNat l = true
      · refine ⟨wd.toNat, by omega, by omega, by omega, (inB_iff _ _).1 h3⟩
      · rw [if_neg h3] at h; omega
theorem packE_short {wd : Int} {l : List Int} (hl : l.length ≤ 4096) : packE l wd = 0 ∨ packE l wd = 1 := by
  unfold packE
  split
  · exact .inr rfl
  · rw [if_neg (by omega)]
    split
    · exact .inl rfl
    · exact .inr rfl
theorem packL_err {wd : Int} {l : List Int} (h : packE l wd ≠ 0) : packL l wd = [] := if_neg h
theorem len_fit (n W : Nat) : n * W ≤ 8 * ((n * W + 7) / 8) := by omega
theorem ofD_pack {W : Nat} {l : List Int} (h : Bt.InR W l) : Bt.ofD 8 (Bt.toD 8 ((l.length * W + 7) / 8) (Bt.ofD W l)) = Bt.ofD W l := by
  refine Bt.ofD_toD 8 _ _ (Bt.ofD_lo h) ?_
  have h1 := Bt.ofD_hi h
  have h2 := Bt.pup (len_fit l.length W)
  rw [Nat.mul_comm W] at h1
  omega
theorem packL_len {W : Nat} {l : List Int} (hW : W ≤ 62) (hl : l.length ≤ 4096) (h : Bt.InR W l) : (packL l W).length = (l.length * W + 7) / 8 := by
  rw [packL_ok hW hl h, Bt.toD_len]
theorem packL_byt (l : List Int) (wd : Int) : Bt.InR 8 (packL l wd) := by
  unfold packL
  split
  · exact Bt.toD_inR _ _ _
  · intro x hx; simp at hx
theorem unE_ok {bs : List Int} {n W : Nat} (hW : W ≤ 62) (hn : n ≤ 4096) (hl : bs.length = (n * W + 7) / 8) (hz : Bt.ofD 8 bs / 2 ^ (n * W) = 0) : unE bs n W = 0 := by
  unfold unE
  rw [if_neg (by omega), if_neg (by omega), if_neg (show ¬ bs.length < ((n : Int).toNat * (W : Int).toNat + 7) / 8 by rw [hl]; exact Nat.lt_irrefl _)]
  refine if_neg ?_
  rintro (q | q)
  · rw [hl] at q; exact absurd q (Nat.lt_irrefl _)
  · exact q hz
theorem unL_ok {bs : List Int} {n W : Nat} (hW : W ≤ 62) (hn : n ≤ 4096) (hl : bs.length = (n * W + 7) / 8) (hz : Bt.ofD 8 bs / 2 ^ (n * W) = 0) : unL bs n W = Bt.toD W n (Bt.ofD 8 bs) := by
  rw [unL, unE_ok hW hn hl hz, if_pos rfl]
  rfl
theorem pack_rest {W : Nat} {l : List Int} (h : Bt.InR W l) : Bt.ofD W l / 2 ^ (l.length * W) = 0 := by
  refine Int.ediv_eq_zero_of_lt (Bt.ofD_lo h) ?_
  rw [Nat.mul_comm]
  exact Bt.ofD_hi h
/-- What was packed is unpacked. -/
theorem un_packE {W : Nat} {l : List Int} (hW : W ≤ 62) (hl : l.length ≤ 4096) (h : Bt.InR W l) : unE (packL l W) l.length W = 0 := by
  refine unE_ok hW hl (packL_len hW hl h) ?_
  rw [packL_ok hW hl h, ofD_pack h]
  exact pack_rest h
theorem un_packL {W : Nat} {l : List Int} (hW : W ≤ 62) (hl : l.length ≤ 4096) (h : Bt.InR W l) : unL (packL l W) l.length W = l := by
  rw [unL_ok hW hl (packL_len hW hl h) (by rw [packL_ok hW hl h, ofD_pack h]; exact pack_rest h), packL_ok hW hl h, ofD_pack h]
  exact Bt.toD_ofD h
theorem at_pack {W : Nat} {l : List Int} (hW : W ≤ 62) (hl : l.length ≤ 4096) (h : Bt.InR W l) (i : Nat) (hi : i < l.length) : atV (packL l W) i W = l.getD i 0 := by
  have hok : AtOk (packL l W).length i W := by
    refine ⟨by omega, by omega, by omega, by omega, ?_⟩
    rw [packL_len hW hl h]
    have e1 : ((i : Int) + 1) * (W : Int) = (((i + 1) * W : Nat) : Int) := by simp
    rw [e1]
    have h1 := Nat.mul_le_mul_right W (show i + 1 ≤ l.length by omega)
    omega
  unfold atV
  rw [if_pos hok, packL_ok hW hl h, ofD_pack h]
  exact Bt.dig_ofD h i hi
theorem at_past (bs : List Int) (W : Nat) (hb : bs.length ≤ 1000000) : atV bs (8 * (bs.length : Int) + 1) W = 0 := by
  unfold atV
  by_cases h : AtOk bs.length (8 * (bs.length : Int) + 1) W
  · obtain ⟨h1, h2, h3, h4, h5⟩ := h
    rcases Nat.eq_zero_or_pos W with hW | hW
    · subst hW
      have h6 := Bt.dig_lo 0 (Bt.ofD 8 bs) (8 * (bs.length : Int) + 1).toNat
      have h7 := Bt.dig_hi 0 (Bt.ofD 8 bs) (8 * (bs.length : Int) + 1).toNat
      rw [Int.pow_zero] at h7
      rw [if_pos ⟨h1, h2, h3, h4, h5⟩]
      show Bt.dig 0 _ _ = 0
      omega
    · have := Int.mul_le_mul_of_nonneg_left (show (1 : Int) ≤ (W : Int) by omega) (show 0 ≤ 8 * (bs.length : Int) + 1 + 1 by omega)
      omega
  · exact if_neg h
theorem unE_inv {bs : List Int} {n wd : Int} (h : unE bs n wd = 0) : ∃ N W : Nat, n = N ∧ wd = W ∧ W ≤ 62 ∧ N ≤ 4096 ∧ bs.length = (N * W + 7) / 8 ∧ Bt.ofD 8 bs / 2 ^ (N * W) = 0 := by
  unfold unE at h
  by_cases h1 : wd < 0 ∨ 62 < wd ∨ n < 0
  · rw [if_pos h1] at h; omega
  · rw [if_neg h1] at h
    by_cases h2 : 4096 < n
    · rw [if_pos h2] at h; omega
    · rw [if_neg h2] at h
      by_cases h3 : bs.length < (n.toNat * wd.toNat + 7) / 8
      · rw [if_pos h3] at h; omega
      · rw [if_neg h3] at h
        by_cases h4 : (n.toNat * wd.toNat + 7) / 8 < bs.length ∨ Bt.ofD 8 bs / 2 ^ (n.toNat * wd.toNat) ≠ 0
        · rw [if_pos h4] at h; omega
        · refine ⟨n.toNat, wd.toNat, by omega, by omega, by omega, by omega, ?_, ?_⟩
          · have : ¬ (n.toNat * wd.toNat + 7) / 8 < bs.length := fun q => h4 (.inl q)
            omega
          · exact Classical.byContradiction fun q => h4 (.inr q)
/-- What is unpacked would be packed as the same bytes. -/
theorem pack_un {bs : List Int} {n W : Nat} (hb : Bt.InR 8 bs) (hW : W ≤ 62) (hn : n ≤ 4096) (hl : bs.length = (n * W + 7) / 8) (hz : Bt.ofD 8 bs / 2 ^ (n * W) = 0) :
    packE (Bt.toD W n (Bt.ofD 8 bs)) W = 0 ∧ packL (Bt.toD W n (Bt.ofD 8 bs)) W = bs := by
  have hlen := Bt.toD_len W n (Bt.ofD 8 bs)
  have hin := Bt.toD_inR W n (Bt.ofD 8 bs)
  refine ⟨packE_ok hW (by omega) hin, ?_⟩
  rw [packL_ok hW (by omega) hin, hlen, ← hl]
  have hV : Bt.ofD W (Bt.toD W n (Bt.ofD 8 bs)) = Bt.ofD 8 bs := by
    refine Bt.ofD_toD W n _ (Bt.ofD_lo hb) ?_
    have hp := Bt.p0 (n * W)
    have h1 := Int.emod_add_mul_ediv (Bt.ofD 8 bs) (2 ^ (n * W))
    have h2 := Bt.mod_hi (Bt.ofD 8 bs) (n * W)
    rw [hz] at h1
    rw [Nat.mul_comm W]
    omega
  rw [hV]
  exact Bt.toD_ofD hb
theorem unE_more {bs : List Int} {n W : Nat} (x : Int) (hW : W ≤ 62) (hn : n ≤ 4096) (hl : bs.length = (n * W + 7) / 8) : unE (bs ++ [x]) n W = 7 := by
  unfold unE
  have e : (bs ++ [x]).length = (n * W + 7) / 8 + 1 := by simp [hl]
  rw [if_neg (by omega), if_neg (by omega), if_neg (show ¬ (bs ++ [x]).length < ((n : Int).toNat * (W : Int).toNat + 7) / 8 by rw [e]; show ¬ (n * W + 7) / 8 + 1 < (n * W + 7) / 8; omega)]
  refine if_pos (.inl ?_)
  rw [e]
  show (n * W + 7) / 8 < (n * W + 7) / 8 + 1
  omega
theorem unE_less {bs : List Int} {n W : Nat} (hW : W ≤ 62) (hn : n ≤ 4096) (hl : bs.length = (n * W + 7) / 8) (h0 : 0 < bs.length) : unE (bs.take (bs.length - 1)) n W = 6 := by
  unfold unE
  have e : (bs.take (bs.length - 1)).length = (n * W + 7) / 8 - 1 := by rw [List.length_take]; omega
  rw [if_neg (by omega), if_neg (by omega)]
  refine if_pos ?_
  rw [e]
  show (n * W + 7) / 8 - 1 < (n * W + 7) / 8
  omega
end Bc
end Go.Proofs.YtoibpbnebcoafaaGreat
namespace Go.Proofs.YtoibpbnebcoafaaGreat
set_option maxRecDepth 20000
namespace Va
/-- A value as the document speaks of it. -/
structure Vl where
  kind : Int
  i : Int
  s : ByteArray
  b : Bool
/-- May this value be? -/
def May (v : Vl) : Prop :=
  (v.kind = 0 ∧ v.i = 0 ∧ v.s = ⟨#[]⟩ ∧ v.b = false) ∨ (v.kind = 1 ∧ v.s = ⟨#[]⟩ ∧ v.b = false) ∨ (v.kind = 2 ∧ v.i = 0 ∧ v.s.size ≤ 64 ∧ v.b = false) ∨ (v.kind = 3 ∧ v.i = 0 ∧ v.s = ⟨#[]⟩)
def null : Vl := ⟨0, 0, ⟨#[]⟩, false⟩
theorem may_null : May null := .inl ⟨rfl, rfl, rfl, rfl⟩

theorem less_before : ∀ x y : List UInt8, Op.bytesLess x y = bytesBefore x y
  | [], [] => by simp [Op.bytesLess, bytesBefore]
  | [], _ :: _ => by simp [Op.bytesLess, bytesBefore]
  | _ :: _, [] => by simp [Op.bytesLess, bytesBefore]
  | a :: x, b :: y => by
    rw [Op.bytesLess, bytesBefore, less_before x y]
/-- Three ways of 'comes first', of a test that is an order. -/
def way (x y : Bool) : Int := if x then -1 else if y then 1 else 0
theorem way_neg {x y : Bool} (h : x = true → y = false) : way x y = -way y x := by
  cases x <;> cases y <;> simp_all [way]
theorem way_zero {x y : Bool} : way x y = 0 ↔ x = false ∧ y = false := by
  cases x <;> cases y <;> simp [way]
theorem way_le {x y : Bool} (h : x = true → y = false) : way x y ≤ 0 ↔ y = false := by
  cases x <;> cases y <;> simp_all [way]

def bef (s t : ByteArray) : Bool := Op.bytesLess s.toList t.toList
theorem bef_eq (s t : ByteArray) : bef s t = bytesBefore s.data.toList t.data.toList := by
  unfold bef
  rw [ByteArray.toList_eq, ByteArray.toList_eq, less_before]
theorem bef_irrefl (s : ByteArray) : bef s s = false := by rw [bef_eq]; exact WideAt.bytes_irrefl _
theorem bef_trans {s t u : ByteArray} (h : bef s t = true) (k : bef t u = true) : bef s u = true := by
  rw [bef_eq] at *
  exact WideShapes.bytes_trans _ _ _ h k
theorem bef_total {s t : ByteArray} (h : s ≠ t) : bef s t = true ∨ bef t s = true := by
  rw [bef_eq, bef_eq]
  exact WideAt.bytes_total _ _ fun e => h (WideShapes.bytes_inj e)
theorem bef_asym {s t : ByteArray} (h : bef s t = true) : bef t s = false := by
  cases k : bef t s
  · rfl
  · have := bef_trans h k
    rw [bef_irrefl] at this
    cases this
def cmpI (x y : Int) : Int := way (decide (x < y)) (decide (y < x))
def cmpS (s t : ByteArray) : Int := way (bef s t) (bef t s)
def cmpB (x y : Bool) : Int := way (!x && y) (x && !y)
/-- Which of two comes first. -/
def ord (a b : Vl) : Int :=
  if a.kind < b.kind then -1 else if b.kind < a.kind then 1
  else if a.kind = 1 then cmpI a.i b.i else if a.kind = 2 then cmpS a.s b.s else if a.kind = 3 then cmpB a.b b.b else 0

theorem cmpI_neg (x y : Int) : cmpI x y = -cmpI y x := way_neg fun h => decide_eq_false (by have := of_decide_eq_true h; omega)
theorem cmpS_neg (s t : ByteArray) : cmpS s t = -cmpS t s := way_neg bef_asym
theorem cmpB_neg (x y : Bool) : cmpB x y = -cmpB y x := by cases x <;> cases y <;> rfl
theorem cmpI_zero {x y : Int} : cmpI x y = 0 ↔ x = y := by
  unfold cmpI
  rw [way_zero, decide_eq_false_iff_not, decide_eq_false_iff_not]
  omega
theorem cmpS_zero {s t : ByteArray} : cmpS s t = 0 ↔ s = t := by
  unfold cmpS
  rw [way_zero]
  refine ⟨fun ⟨h1, h2⟩ => ?_, fun h => by rw [h]; exact ⟨bef_irrefl t, bef_irrefl t⟩⟩
  by_cases e : s = t
  · exact e
  · rcases bef_total e with q | q
    · rw [q] at h1; cases h1
    · rw [q] at h2; cases h2
theorem cmpB_zero {x y : Bool} : cmpB x y = 0 ↔ x = y := by cases x <;> cases y <;> simp [cmpB, way]
theorem cmpI_le {x y : Int} : cmpI x y ≤ 0 ↔ x ≤ y := by
  unfold cmpI
  rw [way_le (fun h => decide_eq_false (by have := of_decide_eq_true h; omega)), decide_eq_false_iff_not]
  omega
theorem cmpS_le {s t : ByteArray} : cmpS s t ≤ 0 ↔ bef t s = false := way_le bef_asym
theorem cmpS_trans {s t u : ByteArray} (h : cmpS s t ≤ 0) (k : cmpS t u ≤ 0) : cmpS s u ≤ 0 := by
  rw [cmpS_le] at *
  by_cases e : t = u
  · subst e; exact h
  by_cases e' : s = t
  · subst e'; exact k
  cases q : bef u s
  · rfl
  · have h1 : bef s t = true := by
      rcases bef_total e' with p | p
      · exact p
      · rw [p] at h; cases h
    have h2 : bef t u = true := by
      rcases bef_total e with p | p
      · exact p
      · rw [p] at k; cases k
    have := bef_trans (bef_trans h1 h2) q
    rw [bef_irrefl] at this
    cases this
theorem cmpB_trans {x y z : Bool} (h : cmpB x y ≤ 0) (k : cmpB y z ≤ 0) : cmpB x z ≤ 0 := by
  revert h k
  cases x <;> cases y <;> cases z <;> simp [cmpB, way]

theorem ord_neg (a b : Vl) : ord a b = -ord b a := by
  unfold ord
  by_cases h1 : a.kind < b.kind
  · rw [if_pos h1, if_neg (by omega), if_pos h1]
  by_cases h2 : b.kind < a.kind
  · rw [if_neg h1, if_pos h2, if_pos h2]; rfl
  have e : a.kind = b.kind := by omega
  rw [if_neg h1, if_neg h2, if_neg h2, if_neg h1, e]
  split
  · exact cmpI_neg _ _
  split
  · exact cmpS_neg _ _
  split
  · exact cmpB_neg _ _
  · rfl
theorem ord_self (a : Vl) : ord a a = 0 := by
  have := ord_neg a a
  omega
/-- Behind the order of kinds. -/
theorem ord_same {a b : Vl} (h : a.kind = b.kind) : ord a b = if a.kind = 1 then cmpI a.i b.i else if a.kind = 2 then cmpS a.s b.s else if a.kind = 3 then cmpB a.b b.b else 0 := by
  unfold ord
  rw [if_neg (by omega), if_neg (by omega)]
theorem way_bd {x y : Bool} : -1 ≤ way x y ∧ way x y ≤ 1 := by cases x <;> cases y <;> simp [way]
theorem ord_bd (a b : Vl) : -1 ≤ ord a b ∧ ord a b ≤ 1 := by
  unfold ord
  split
  · omega
  split
  · omega
  split
  · exact way_bd
  split
  · exact way_bd
  split
  · exact way_bd
  · omega
theorem ord_kind {a b : Vl} (h : ord a b ≤ 0) : a.kind ≤ b.kind := by
  by_cases q : b.kind < a.kind
  · unfold ord at h
    rw [if_neg (by omega), if_pos q] at h
    omega
  · omega
theorem ord_zero_kind {a b : Vl} (h : ord a b = 0) : a.kind = b.kind := by
  have h1 := ord_kind (a := a) (b := b) (by omega)
  have h2 := ord_kind (a := b) (b := a) (by have := ord_neg a b; omega)
  omega
theorem ord_zero {a b : Vl} (ha : May a) (hb : May b) : ord a b = 0 ↔ a = b := by
  refine ⟨fun h => ?_, fun h => by rw [h]; exact ord_self b⟩
  have hk := ord_zero_kind h
  rw [ord_same hk] at h
  obtain ⟨k1, i1, s1, b1⟩ := a
  obtain ⟨k2, i2, s2, b2⟩ := b
  unfold May at ha hb
  simp only [] at ha hb hk h
  subst hk
  rcases ha with ⟨rfl, rfl, rfl, rfl⟩ | ⟨rfl, rfl, rfl⟩ | ⟨rfl, rfl, _, rfl⟩ | ⟨rfl, rfl, rfl⟩ <;> rcases hb with ⟨q, rfl, rfl, rfl⟩ | ⟨q, rfl, rfl⟩ | ⟨q, rfl, _, rfl⟩ | ⟨q, rfl, rfl⟩ <;> first | omega | skip
  · rfl
  · rw [if_pos rfl, cmpI_zero] at h
    rw [h]
  · rw [if_neg (by omega), if_pos rfl, cmpS_zero] at h
    rw [h]
  · rw [if_neg (by omega), if_neg (by omega), if_pos rfl, cmpB_zero] at h
    rw [h]
theorem ord_le_trans {a b c : Vl} (h : ord a b ≤ 0) (k : ord b c ≤ 0) : ord a c ≤ 0 := by
  have h1 := ord_kind h
  have h2 := ord_kind k
  by_cases q : a.kind < c.kind
  · unfold ord
    rw [if_pos q]
    omega
  · have e1 : a.kind = b.kind := by omega
    have e2 : b.kind = c.kind := by omega
    rw [ord_same e1] at h
    rw [ord_same e2, ← e1] at k
    rw [ord_same (e1.trans e2)]
    split
    · rename_i p
      rw [if_pos p, cmpI_le] at h k
      rw [cmpI_le]
      omega
    rename_i p
    rw [if_neg p] at h k
    split
    · rename_i p
      rw [if_pos p] at h k
      exact cmpS_trans h k
    rename_i p
    rw [if_neg p] at h k
    split
    · rename_i p
      rw [if_pos p] at h k
      exact cmpB_trans h k
    · omega
/-- What the law of the order asks of three. -/
theorem ord_three {a b c : Vl} (ha : May a) (hb : May b) (hc : May c) (h : ord a b ≤ 0) (k : ord b c ≤ 0) : ord a c ≤ 0 ∧ (ord a c = 0 ↔ ord a b = 0 ∧ ord b c = 0) := by
  refine ⟨ord_le_trans h k, fun e => ?_, fun ⟨e1, e2⟩ => ?_⟩
  · have hac := (ord_zero ha hc).1 e
    subst hac
    have := ord_neg a b
    exact ⟨by omega, by omega⟩
  · rw [(ord_zero ha hb).1 e1]
    exact e2
theorem null_first {a : Vl} (ha : May a) : ord null a ≤ 0 := by
  rcases ha with ⟨h, _⟩ | ⟨h, _⟩ | ⟨h, _⟩ | ⟨h, _⟩
  · rw [ord_same (by rw [h]; rfl)]
    simp [null]
  all_goals
    unfold ord
    rw [if_pos (show null.kind < a.kind from (show (0 : Int) < a.kind by omega))]
    omega
end Va
end Go.Proofs.YtoibpbnebcoafaaGreat
