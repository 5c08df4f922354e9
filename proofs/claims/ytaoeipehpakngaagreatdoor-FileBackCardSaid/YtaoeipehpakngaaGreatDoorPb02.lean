/- Words on memory, over any program: a row of numbers that is known whole, a variable that a function has captured, an answer of a slice and an error's number, a slice cut at both ends, what make leaves. The bit operations of layer 2 (a bit put over bits that are 0; the lowest bit) as plain and what goes with it. -/
import Derived.WalkKit
import Derived.WalkSmall
import Derived.WalkSpells
import Derived.Lib.Hide
import Derived.RegionTactic
import Derived.WideAt
import Derived.WideShapes
import Derived.Laws.Strings
import Derived.Test.YtaoeipehpakngaaGreatDoorPb01
import Derived.Test.YtaoeipehpakngaaGreatDoorProg
namespace Go.Proofs.YtaoeipehpakngaaGreatDoor
set_option maxRecDepth 20000
open Go.RowKit
namespace Wd
def Row (w : World) (g : Nat) (k : IntKind) (e : TypeId) (ys : List Int) : Prop := w.heap[g]? = some (.cells (ys.map (Value.int k)).toArray e (0, 0))
def Var (w : World) (p : Nat) (e : TypeId) (v : Value) : Prop := w.heap[p]? = some (.cells #[v] e (0, 0))
section
variable {w w' : World} {g p : Nat} {k : IntKind} {e : TypeId} {ys : List Int} {v u : Value}
theorem Row.lt (h : Row w g k e ys) : g < w.heap.size := lt_of_block h
theorem Row.cell (h : Row w g k e ys) (j : Nat) (hj : j < ys.length) : w.cell? ⟨g, j, none⟩ = some (.int k (ys.getD j 0)) := by
  rw [cell_of_row w g j _ e (0, 0) h]
  simp [List.getD, List.getElem?_eq_getElem hj]
theorem Row.free (h : Row w g k e ys) (j : Nat) : w.frozen? ⟨g, j, none⟩ = false := frozen_of_row w g j _ e h
theorem Row.set (h : Row w g k e ys) (j : Nat) (x : Int) : Row (w.setCell ⟨g, j, none⟩ (.int k x)) g k e (ys.set j x) := by
  unfold Row
  rw [heap_setCell_same w g j _ e _ h]
  simp [List.map_set]
theorem Row.other (h : Row w g k e ys) {a : Addr} (ha : g ≠ a.block) : Row (w.setCell a u) g k e ys := by
  unfold Row
  rw [heap_setCell_other w a g u ha]
  exact h
theorem Row.drew (h : Row w g k e ys) : Row w.drew g k e ys := h
theorem Row.alloc (h : Row w g k e ys) (o : Obj) : Row (w.alloc o) g k e ys := by
  unfold Row
  rw [Below.heap_alloc w o g h.lt]
  exact h
theorem Row.below {B : Nat} (h : Row w g k e ys) (hg : g < B) (hb : Below B w w') : Row w' g k e ys := by
  unfold Row
  rw [hb.block g hg]
  exact h
theorem Row.of_own {base n : Nat} (h : w.ownsRow base e 1 (.slice (some ⟨g, 0, none⟩) n n) n (ys.map (Value.int k))) : Row w g k e ys ∧ base ≤ g ∧ n = ys.length := by
  have hl : n = ys.length := by have := h.1; simpa using this.symm
  rcases h.2 with ⟨h', _⟩ | ⟨g', cap', cur, h', hb, hg, _, _, hs, ht⟩
  · simp at h'
  · simp only [Value.slice.injEq, Option.some.injEq, Addr.mk.injEq, and_true, true_and] at h'
    obtain ⟨rfl, rfl⟩ := h'
    refine ⟨?_, hb, hl⟩
    unfold Row
    rw [hg]
    have : cur = (ys.map (Value.int k)).toArray := by
      rw [← ht, List.take_of_length_le (by simp; omega)]
    rw [this]
theorem Row.sl (h : Row w g k e ys) (n : Nat) (hn : n = ys.length) (hm : n ≤ maxLen) : Sl w k (some ⟨g, 0, none⟩) n n ys :=
  ⟨hn, Nat.le_refl _, hm, by simp, Rd.mk h.lt fun j hj => by rw [Nat.zero_add]; exact h.cell j hj⟩
theorem Var.lt (h : Var w p e v) : p < w.heap.size := lt_of_block h
theorem Var.cell (h : Var w p e v) : w.cell? ⟨p, 0, none⟩ = some v := cell_of_one h
theorem Var.free (h : Var w p e v) : w.frozen? ⟨p, 0, none⟩ = false := free_of_one h
theorem Var.set (h : Var w p e v) : Var (w.setCell ⟨p, 0, none⟩ u) p e u := one_setCell h
theorem Var.other (h : Var w p e v) {a : Addr} (ha : p ≠ a.block) : Var (w.setCell a u) p e v := by
  unfold Var
  rw [heap_setCell_other w a p u ha]
  exact h
theorem Var.alloc (h : Var w p e v) (o : Obj) : Var (w.alloc o) p e v := by
  unfold Var
  rw [Below.heap_alloc w o p h.lt]
  exact h
theorem Var.new (w : World) (e : TypeId) (v : Value) : Var (w.alloc (.cells #[v] e)) w.heap.size e v := heap_alloc_new w _
theorem Var.drew (h : Var w p e v) : Var w.drew p e v := h
end
def Out2 (w : World) (k : IntKind) (ys : List Int) (er : Int) (e : Ending) (w' : World) : Prop :=
  ∃ A n c, e = .returned (.tuple #[.slice A n c, .int .i64 er]) ∧ Sl w' k A n c ys ∧ Below w.heap.size w w'
theorem Out2.err (w w' : World) (k : IntKind) (er : Int) (h : Below w.heap.size w w') : Out2 w k [] er (.returned (.tuple #[.slice none 0 0, .int .i64 er])) w' := ⟨none, 0, 0, rfl, Sl.none_ _ _, h⟩
theorem Sl.mid {w : World} {k : IntKind} {A : Option Addr} {n c : Nat} {ys : List Int} (h : Sl w k A n c ys) (lo hi : Nat) (h1 : lo ≤ hi) (h2 : hi ≤ n) : Sl w k (if c = lo then A else A.map (·.add lo)) (hi - lo) (c - lo) ((ys.drop lo).take (hi - lo)) :=
  (h.cut lo (by omega)).head (hi - lo) (by omega)
theorem Sl.mid' {w : World} {k : IntKind} {A : Option Addr} {n c : Nat} {ys : List Int} (h : Sl w k A n c ys) (lo hi : Nat) (h1 : lo ≤ hi) (h2 : hi ≤ n) (hc : c ≠ lo) : Sl w k (A.map (·.add lo)) (hi - lo) (c - lo) ((ys.drop lo).take (hi - lo)) := by
  have := h.mid lo hi h1 h2
  rwa [if_neg hc] at this
theorem made_zero (k : IntKind) (n : Nat) : (madeCells (Value.int k 0).cells (n * 1)).toList = (List.replicate n (0 : Int)).map (Value.int k) := by
  refine List.ext_getElem (by simp [madeCells]) fun i h1 h2 => ?_
  simp [madeCells, Value.cells, Nat.mod_one]
def lenOf : Value → Nat | .slice _ n _ => n | _ => 0
theorem own_slice {w : World} {B : Nat} {e : TypeId} {k : IntKind} {v : Value} {t : Nat} {xs : List Int} (h : w.ownsRow B e 1 v xs.length (xs.map (Value.int k))) (ht : xs.length = t) : ∃ A c, v = .slice A t c := by
  obtain ⟨_, A, c, rfl, _⟩ := own_form h
  exact ⟨A, c, by rw [ht]⟩
end Wd
namespace Bt
theorem nat64 (a : Nat) (h : a < 2 ^ 63) : (BitVec.ofInt 64 (a : Int)).toNat = a := by
  rw [BitVec.ofInt_natCast, BitVec.toNat_ofNat, Nat.mod_eq_of_lt (by omega)]
theorem i64_or_nat (a b : Nat) (ha : a < 2 ^ 63) (hb : b < 2 ^ 63) : bits BinOp.or IntKind.i64 (a : Int) (b : Int) = ((a ||| b : Nat) : Int) := by
  show IntKind.i64.wrap ((BitVec.ofInt 64 (a : Int) ||| BitVec.ofInt 64 (b : Int)).toNat : Int) = _
  rw [BitVec.toNat_or, nat64 a ha, nat64 b hb]
  have : a ||| b < 2 ^ 63 := Nat.or_lt_two_pow ha hb
  rw [IntKind.wrap_i64]
  omega
theorem i64_and_one (a : Int) (h0 : 0 ≤ a) (h1 : a ≤ 9223372036854775807) : bits BinOp.and IntKind.i64 a 1 = a % 2 := by
  obtain ⟨n, rfl⟩ := Int.eq_ofNat_of_zero_le h0
  show IntKind.i64.wrap ((BitVec.ofInt 64 (n : Int) &&& BitVec.ofInt 64 ((1 : Nat) : Int)).toNat : Int) = _
  rw [BitVec.toNat_and, nat64 n (by omega), nat64 1 (by omega), Nat.and_one_is_mod]
  rw [IntKind.wrap_i64]
  omega
theorem or_bit (r x b : Nat) (hx : x < 2 ^ r) : x ||| b * 2 ^ r = x + b * 2 ^ r := by
  rw [Nat.or_comm, nat_join r (b * 2 ^ r) x (Nat.mul_mod_left _ _) hx]
  omega
theorem bit_le {b : Int} (b0 : 0 ≤ b) (b1 : b ≤ 1) (r : Nat) : 0 ≤ b * 2 ^ r ∧ b * 2 ^ r ≤ 2 ^ r := by
  have := p0 r
  rcases (show b = 0 ∨ b = 1 by omega) with rfl | rfl <;> omega
theorem or64 (r : Nat) (x b : Int) (hr : r ≤ 61) (h0 : 0 ≤ x) (h1 : x < 2 ^ r) (b0 : 0 ≤ b) (b1 : b ≤ 1) : bits BinOp.or IntKind.i64 x (wrap64 (b * 2 ^ r)) = x + b * 2 ^ r := by
  have hb := bit_le b0 b1 r
  have hp := pup hr
  rw [show (2 : Int) ^ 61 = 2305843009213693952 by decide] at hp
  rw [IntWalk.wrap64_in _ ⟨by omega, by omega⟩]
  obtain ⟨n, rfl⟩ := Int.eq_ofNat_of_zero_le h0
  obtain ⟨c, rfl⟩ := Int.eq_ofNat_of_zero_le b0
  have e : ((2 : Int) ^ r) = ((2 ^ r : Nat) : Int) := by simp
  have e1 : (c : Int) * 2 ^ r = ((c * 2 ^ r : Nat) : Int) := by rw [e]; simp
  rw [e1] at hb ⊢
  rw [e] at h1 hb hp
  rw [i64_or_nat n (c * 2 ^ r) (by omega) (by omega), or_bit r n c (by omega)]
  omega
theorem or01 (x b : Int) (h0 : 0 ≤ x) (h1 : x ≤ 1) (b0 : 0 ≤ b) (b1 : b ≤ 1) : bits BinOp.or IntKind.i64 x b = if x = 0 ∧ b = 0 then 0 else 1 := by
  rcases (show x = 0 ∨ x = 1 by omega) with rfl | rfl <;> rcases (show b = 0 ∨ b = 1 by omega) with rfl | rfl <;> decide
end Bt
namespace Bc
theorem byte_bit (x : Int) (r : Nat) (h0 : 0 ≤ x) (h1 : x ≤ 255) : bits BinOp.and IntKind.i64 (x / 2 ^ r) 1 = x / 2 ^ r % 2 := by
  have hp := Bt.p0 r
  have h2 := Int.ediv_nonneg h0 (show (0 : Int) ≤ 2 ^ r by omega)
  have h3 := Int.ediv_le_self (2 ^ r) h0
  exact Bt.i64_and_one _ h2 (by omega)
theorem ret_int {k : IntKind} {a b : Int} (h : a = b) : Ending.returned (.int k a) = .returned (.int k b) := by rw [h]
theorem prod_le (n k : Nat) (h1 : n ≤ 4096) (h2 : k ≤ 62) : (n : Int) * (k : Int) ≤ 253952 ∧ 0 ≤ (n : Int) * (k : Int) := by
  have := Nat.mul_le_mul h1 h2
  exact ⟨by omega, by omega⟩
def wid (n : Int) : Nat := if h : 0 < n then wid (n / 2) + 1 else 0
termination_by n.toNat
decreasing_by omega
theorem wid_lo (n : Int) (h : n ≤ 0) : wid n = 0 := by rw [wid, dif_neg (by omega)]
theorem wid_hi (n : Int) (h : 0 < n) : wid n = wid (n / 2) + 1 := by rw [wid, dif_pos h]
theorem wid_le (k : Nat) : ∀ n : Int, (wid n ≤ k ↔ n < 2 ^ k) := by
  induction k with
  | zero =>
    intro n
    by_cases h : 0 < n
    · rw [wid_hi n h]; simp; omega
    · rw [wid_lo n (by omega)]; simp; omega
  | succ k ih =>
    intro n
    by_cases h : 0 < n
    · rw [wid_hi n h, Nat.add_le_add_iff_right, ih, Int.pow_succ]; omega
    · have := Bt.p0 (k + 1)
      rw [wid_lo n (by omega)]; omega
theorem wid_63 (n : Int) (h : n ≤ 9223372036854775807) : wid n ≤ 63 := by
  rw [wid_le, show (2 : Int) ^ 63 = 9223372036854775808 by decide]; omega
theorem getD_bit {wd : Nat} {l : List Int} (h : Bt.InR wd l) (j : Nat) (hj : j < wd * l.length) : l.getD (j / wd) 0 / 2 ^ (j % wd) % 2 = Bt.ofD wd l / 2 ^ j % 2 := by
  have hw : 0 < wd := by
    rcases Nat.eq_zero_or_pos wd with h0 | h0
    · rw [h0, Nat.zero_mul] at hj; omega
    · exact h0
  have h1 : j / wd < l.length := Nat.div_lt_of_lt_mul hj
  have h2 := Bt.bit_dig wd (Bt.ofD wd l) (j / wd) (j % wd) (Nat.mod_lt _ hw)
  rw [Nat.div_add_mod, Bt.dig_ofD h _ h1] at h2
  exact h2.symm
theorem bit01 (v : Int) : 0 ≤ v % 2 ∧ v % 2 ≤ 1 := by omega
theorem mul_cast (i wd : Nat) : (i : Int) * (wd : Int) = ((i * wd : Nat) : Int) := by simp
def AtOk (n : Nat) (i wd : Int) : Prop := 0 ≤ wd ∧ wd ≤ 62 ∧ 0 ≤ i ∧ i ≤ 1099511627776 ∧ (i + 1) * wd ≤ 8 * (n : Int)
instance (n : Nat) (i wd : Int) : Decidable (AtOk n i wd) := by unfold AtOk; infer_instance
theorem info_int : (Tryz.prog.info? 3).map (fun i => (i.zero, i.size, i.bytes)) = some (some (.int .i64 0), 1, 8) := by kernel_rfl
theorem info_u8 : (Tryz.prog.info? 5).map (fun i => (i.zero, i.size, i.bytes)) = some (some (.int .u8 0), 1, 1) := by kernel_rfl
theorem toD_zero (wd n : Nat) (V : Int) : Bt.toD wd n (V % 2 ^ 0) = List.replicate n 0 := by
  have : V % 2 ^ 0 = 0 := by simp
  rw [this]
  refine Bt.ext_getD (by simp [Bt.toD_len]) fun i hi => ?_
  rw [Bt.toD_len] at hi
  rw [Bt.toD_get _ _ _ _ hi]
  simp [Bt.dig, List.getD, hi]
def unE (bs : List Int) (n wd : Int) : Int :=
  if wd < 0 ∨ 62 < wd ∨ n < 0 then 1 else if 4096 < n then 2 else if bs.length < (n.toNat * wd.toNat + 7) / 8 then 6
  else if (n.toNat * wd.toNat + 7) / 8 < bs.length ∨ Bt.ofD 8 bs / 2 ^ (n.toNat * wd.toNat) ≠ 0 then 7 else 0
def unL (bs : List Int) (n wd : Int) : List Int := if unE bs n wd = 0 then Bt.toD wd.toNat n.toNat (Bt.ofD 8 bs) else []
theorem pow62 (wd : Nat) (h : wd ≤ 62) : (2 : Int) ^ wd ≤ 4611686018427387904 ∧ 0 < (2 : Int) ^ wd := by
  have h1 := Bt.pup h
  rw [show (2 : Int) ^ 62 = 4611686018427387904 by decide] at h1
  exact ⟨h1, Bt.p0 wd⟩
theorem i64_of_fits {l : List Int} (h : Wd.Fits .i64 l) (j : Nat) (hj : j < l.length) : -9223372036854775808 ≤ l.getD j 0 ∧ l.getD j 0 ≤ 9223372036854775807 := by
  have := h (l.getD j 0) (by simp [List.getD, hj])
  simpa [Lit.wf, show IntKind.i64.min = -9223372036854775808 from rfl] using this
def inB (wd : Nat) (l : List Int) : Bool := l.all fun x => decide (0 ≤ x ∧ x < 2 ^ wd)
theorem inB_iff (wd : Nat) (l : List Int) : inB wd l = true ↔ Bt.InR wd l := by simp [inB, Bt.InR]
def packE (l : List Int) (wd : Int) : Int := if wd < 0 ∨ 62 < wd then 1 else if 4096 < l.length then 2 else if inB wd.toNat l then 0 else 1
def packL (l : List Int) (wd : Int) : List Int := if packE l wd = 0 then Bt.toD 8 ((l.length * wd.toNat + 7) / 8) (Bt.ofD wd.toNat l) else []
end Bc
namespace Bc
theorem packE_ok {W : Nat} {l : List Int} (hW : W ≤ 62) (hl : l.length ≤ 4096) (h : Bt.InR W l) : packE l W = 0 := by
  unfold packE
  rw [if_neg (by omega), if_neg (by omega)]
  exact if_pos ((inB_iff W l).2 h)
theorem packL_ok {W : Nat} {l : List Int} (hW : W ≤ 62) (hl : l.length ≤ 4096) (h : Bt.InR W l) : packL l W = Bt.toD 8 ((l.length * W + 7) / 8) (Bt.ofD W l) := by
  rw [packL, packE_ok hW hl h, if_pos rfl]
  rfl
theorem len_fit (n W : Nat) : n * W ≤ 8 * ((n * W + 7) / 8) := by omega
theorem ofD_pack {W : Nat} {l : List Int} (h : Bt.InR W l) : Bt.ofD 8 (Bt.toD 8 ((l.length * W + 7) / 8) (Bt.ofD W l)) = Bt.ofD W l := by
  refine Bt.ofD_toD 8 _ _ (Bt.ofD_lo h) ?_
  have h1 := Bt.ofD_hi h
  have h2 := Bt.pup (len_fit l.length W)
  rw [Nat.mul_comm W] at h1
  omega
theorem packL_len {W : Nat} {l : List Int} (hW : W ≤ 62) (hl : l.length ≤ 4096) (h : Bt.InR W l) : (packL l W).length = (l.length * W + 7) / 8 := by
  rw [packL_ok hW hl h, Bt.toD_len]
theorem packL_byt (l : List Int) (wd : Int) : Bt.InR 8 (packL l wd) := by
  unfold packL
  split
  · exact Bt.toD_inR _ _ _
  · intro x hx; simp at hx
theorem unE_ok {bs : List Int} {n W : Nat} (hW : W ≤ 62) (hn : n ≤ 4096) (hl : bs.length = (n * W + 7) / 8) (hz : Bt.ofD 8 bs / 2 ^ (n * W) = 0) : unE bs n W = 0 := by
  unfold unE
  rw [if_neg (by omega), if_neg (by omega), if_neg (show ¬ bs.length < ((n : Int).toNat * (W : Int).toNat + 7) / 8 by rw [hl]; exact Nat.lt_irrefl _)]
  refine if_neg ?_
  rintro (q | q)
  · rw [hl] at q; exact absurd q (Nat.lt_irrefl _)
  · exact q hz
theorem unL_ok {bs : List Int} {n W : Nat} (hW : W ≤ 62) (hn : n ≤ 4096) (hl : bs.length = (n * W + 7) / 8) (hz : Bt.ofD 8 bs / 2 ^ (n * W) = 0) : unL bs n W = Bt.toD W n (Bt.ofD 8 bs) := by
  rw [unL, unE_ok hW hn hl hz, if_pos rfl]
  rfl
theorem pack_rest {W : Nat} {l : List Int} (h : Bt.InR W l) : Bt.ofD W l / 2 ^ (l.length * W) = 0 := by
  refine Int.ediv_eq_zero_of_lt (Bt.ofD_lo h) ?_
  rw [Nat.mul_comm]
  exact Bt.ofD_hi h
theorem un_packE {W : Nat} {l : List Int} (hW : W ≤ 62) (hl : l.length ≤ 4096) (h : Bt.InR W l) : unE (packL l W) l.length W = 0 := by
  refine unE_ok hW hl (packL_len hW hl h) ?_
  rw [packL_ok hW hl h, ofD_pack h]
  exact pack_rest h
theorem un_packL {W : Nat} {l : List Int} (hW : W ≤ 62) (hl : l.length ≤ 4096) (h : Bt.InR W l) : unL (packL l W) l.length W = l := by
  rw [unL_ok hW hl (packL_len hW hl h) (by rw [packL_ok hW hl h, ofD_pack h]; exact pack_rest h), packL_ok hW hl h, ofD_pack h]
  exact Bt.toD_ofD h
theorem unE_inv {bs : List Int} {n wd : Int} (h : unE bs n wd = 0) : ∃ N W : Nat, n = N ∧ wd = W ∧ W ≤ 62 ∧ N ≤ 4096 ∧ bs.length = (N * W + 7) / 8 ∧ Bt.ofD 8 bs / 2 ^ (N * W) = 0 := by
  unfold unE at h
  by_cases h1 : wd < 0 ∨ 62 < wd ∨ n < 0
  · rw [if_pos h1] at h; omega
  · rw [if_neg h1] at h
    by_cases h2 : 4096 < n
    · rw [if_pos h2] at h; omega
    · rw [if_neg h2] at h
      by_cases h3 : bs.length < (n.toNat * wd.toNat + 7) / 8
      · rw [if_pos h3] at h; omega
      · rw [if_neg h3] at h
        by_cases h4 : (n.toNat * wd.toNat + 7) / 8 < bs.length ∨ Bt.ofD 8 bs / 2 ^ (n.toNat * wd.toNat) ≠ 0
        · rw [if_pos h4] at h; omega
        · refine ⟨n.toNat, wd.toNat, by omega, by omega, by omega, by omega, ?_, ?_⟩
          · have : ¬ (n.toNat * wd.toNat + 7) / 8 < bs.length := fun q => h4 (.inl q)
            omega
          · exact Classical.byContradiction fun q => h4 (.inr q)
end Bc
end Go.Proofs.YtaoeipehpakngaaGreatDoor
namespace Go.Proofs.YtaoeipehpakngaaGreatDoor
set_option maxRecDepth 20000
namespace Va
structure Vl where
  kind : Int
  i : Int
  s : ByteArray
  b : Bool
def May (v : Vl) : Prop :=
  (v.kind = 0 ∧ v.i = 0 ∧ v.s = ⟨#[]⟩ ∧ v.b = false) ∨ (v.kind = 1 ∧ v.s = ⟨#[]⟩ ∧ v.b = false) ∨ (v.kind = 2 ∧ v.i = 0 ∧ v.s.size ≤ 64 ∧ v.b = false) ∨ (v.kind = 3 ∧ v.i = 0 ∧ v.s = ⟨#[]⟩)
def null : Vl := ⟨0, 0, ⟨#[]⟩, false⟩
theorem may_null : May null := .inl ⟨rfl, rfl, rfl, rfl⟩
theorem less_before : ∀ x y : List UInt8, Op.bytesLess x y = bytesBefore x y
  | [], [] => by simp [Op.bytesLess, bytesBefore]
  | [], _ :: _ => by simp [Op.bytesLess, bytesBefore]
  | _ :: _, [] => by simp [Op.bytesLess, bytesBefore]
  | a :: x, b :: y => by
    rw [Op.bytesLess, bytesBefore, less_before x y]
def way (x y : Bool) : Int := if x then -1 else if y then 1 else 0
theorem way_neg {x y : Bool} (h : x = true → y = false) : way x y = -way y x := by
  cases x <;> cases y <;> simp_all [way]
theorem way_zero {x y : Bool} : way x y = 0 ↔ x = false ∧ y = false := by
  cases x <;> cases y <;> simp [way]
theorem way_le {x y : Bool} (h : x = true → y = false) : way x y ≤ 0 ↔ y = false := by
  cases x <;> cases y <;> simp_all [way]
def bef (s t : ByteArray) : Bool := Op.bytesLess s.toList t.toList
theorem bef_eq (s t : ByteArray) : bef s t = bytesBefore s.data.toList t.data.toList := by
  unfold bef
  rw [ByteArray.toList_eq, ByteArray.toList_eq, less_before]
theorem bef_irrefl (s : ByteArray) : bef s s = false := by rw [bef_eq]; exact WideAt.bytes_irrefl _
theorem bef_trans {s t u : ByteArray} (h : bef s t = true) (k : bef t u = true) : bef s u = true := by
  rw [bef_eq] at *
  exact WideShapes.bytes_trans _ _ _ h k
theorem bef_total {s t : ByteArray} (h : s ≠ t) : bef s t = true ∨ bef t s = true := by
  rw [bef_eq, bef_eq]
  exact WideAt.bytes_total _ _ fun e => h (WideShapes.bytes_inj e)
theorem bef_asym {s t : ByteArray} (h : bef s t = true) : bef t s = false := by
  cases k : bef t s
  · rfl
  · have := bef_trans h k
    rw [bef_irrefl] at this
    cases this
def cmpI (x y : Int) : Int := way (decide (x < y)) (decide (y < x))
def cmpS (s t : ByteArray) : Int := way (bef s t) (bef t s)
def cmpB (x y : Bool) : Int := way (!x && y) (x && !y)
def ord (a b : Vl) : Int :=
  if a.kind < b.kind then -1 else if b.kind < a.kind then 1
  else if a.kind = 1 then cmpI a.i b.i else if a.kind = 2 then cmpS a.s b.s else if a.kind = 3 then cmpB a.b b.b else 0
theorem cmpI_neg (x y : Int) : cmpI x y = -cmpI y x := way_neg fun h => decide_eq_false (by have := of_decide_eq_true h; omega)
theorem cmpS_neg (s t : ByteArray) : cmpS s t = -cmpS t s := way_neg bef_asym
theorem cmpB_neg (x y : Bool) : cmpB x y = -cmpB y x := by cases x <;> cases y <;> rfl
theorem cmpI_zero {x y : Int} : cmpI x y = 0 ↔ x = y := by
  unfold cmpI
  rw [way_zero, decide_eq_false_iff_not, decide_eq_false_iff_not]
  omega
theorem cmpS_zero {s t : ByteArray} : cmpS s t = 0 ↔ s = t := by
  unfold cmpS
  rw [way_zero]
  refine ⟨fun ⟨h1, h2⟩ => ?_, fun h => by rw [h]; exact ⟨bef_irrefl t, bef_irrefl t⟩⟩
  by_cases e : s = t
  · exact e
  · rcases bef_total e with q | q
    · rw [q] at h1; cases h1
    · rw [q] at h2; cases h2
theorem cmpB_zero {x y : Bool} : cmpB x y = 0 ↔ x = y := by cases x <;> cases y <;> simp [cmpB, way]
theorem cmpI_le {x y : Int} : cmpI x y ≤ 0 ↔ x ≤ y := by
  unfold cmpI
  rw [way_le (fun h => decide_eq_false (by have := of_decide_eq_true h; omega)), decide_eq_false_iff_not]
  omega
theorem cmpS_le {s t : ByteArray} : cmpS s t ≤ 0 ↔ bef t s = false := way_le bef_asym
theorem cmpS_trans {s t u : ByteArray} (h : cmpS s t ≤ 0) (k : cmpS t u ≤ 0) : cmpS s u ≤ 0 := by
  rw [cmpS_le] at *
  by_cases e : t = u
  · subst e; exact h
  by_cases e' : s = t
  · subst e'; exact k
  cases q : bef u s
  · rfl
  · have h1 : bef s t = true := by
      rcases bef_total e' with p | p
      · exact p
      · rw [p] at h; cases h
    have h2 : bef t u = true := by
      rcases bef_total e with p | p
      · exact p
      · rw [p] at k; cases k
    have := bef_trans (bef_trans h1 h2) q
    rw [bef_irrefl] at this
    cases this
theorem cmpB_trans {x y z : Bool} (h : cmpB x y ≤ 0) (k : cmpB y z ≤ 0) : cmpB x z ≤ 0 := by
  revert h k
  cases x <;> cases y <;> cases z <;> simp [cmpB, way]
theorem ord_neg (a b : Vl) : ord a b = -ord b a := by
  unfold ord
  by_cases h1 : a.kind < b.kind
  · rw [if_pos h1, if_neg (by omega), if_pos h1]
  by_cases h2 : b.kind < a.kind
  · rw [if_neg h1, if_pos h2, if_pos h2]; rfl
  have e : a.kind = b.kind := by omega
  rw [if_neg h1, if_neg h2, if_neg h2, if_neg h1, e]
  split
  · exact cmpI_neg _ _
  split
  · exact cmpS_neg _ _
  split
  · exact cmpB_neg _ _
  · rfl
theorem ord_self (a : Vl) : ord a a = 0 := by
  have := ord_neg a a
  omega
theorem ord_same {a b : Vl} (h : a.kind = b.kind) : ord a b = if a.kind = 1 then cmpI a.i b.i else if a.kind = 2 then cmpS a.s b.s else if a.kind = 3 then cmpB a.b b.b else 0 := by
  unfold ord
  rw [if_neg (by omega), if_neg (by omega)]
theorem ord_kind {a b : Vl} (h : ord a b ≤ 0) : a.kind ≤ b.kind := by
  by_cases q : b.kind < a.kind
  · unfold ord at h
    rw [if_neg (by omega), if_pos q] at h
    omega
  · omega
theorem ord_zero_kind {a b : Vl} (h : ord a b = 0) : a.kind = b.kind := by
  have h1 := ord_kind (a := a) (b := b) (by omega)
  have h2 := ord_kind (a := b) (b := a) (by have := ord_neg a b; omega)
  omega
theorem ord_zero {a b : Vl} (ha : May a) (hb : May b) : ord a b = 0 ↔ a = b := by
  refine ⟨fun h => ?_, fun h => by rw [h]; exact ord_self b⟩
  have hk := ord_zero_kind h
  rw [ord_same hk] at h
  obtain ⟨k1, i1, s1, b1⟩ := a
  obtain ⟨k2, i2, s2, b2⟩ := b
  unfold May at ha hb
  simp only [] at ha hb hk h
  subst hk
  rcases ha with ⟨rfl, rfl, rfl, rfl⟩ | ⟨rfl, rfl, rfl⟩ | ⟨rfl, rfl, _, rfl⟩ | ⟨rfl, rfl, rfl⟩ <;> rcases hb with ⟨q, rfl, rfl, rfl⟩ | ⟨q, rfl, rfl⟩ | ⟨q, rfl, _, rfl⟩ | ⟨q, rfl, rfl⟩ <;> first | omega | skip
  · rfl
  · rw [if_pos rfl, cmpI_zero] at h
    rw [h]
  · rw [if_neg (by omega), if_pos rfl, cmpS_zero] at h
    rw [h]
  · rw [if_neg (by omega), if_neg (by omega), if_pos rfl, cmpB_zero] at h
    rw [h]
theorem ord_le_trans {a b c : Vl} (h : ord a b ≤ 0) (k : ord b c ≤ 0) : ord a c ≤ 0 := by
  have h1 := ord_kind h
  have h2 := ord_kind k
  by_cases q : a.kind < c.kind
  · unfold ord
    rw [if_pos q]
    omega
  · have e1 : a.kind = b.kind := by omega
    have e2 : b.kind = c.kind := by omega
    rw [ord_same e1] at h
    rw [ord_same e2, ← e1] at k
    rw [ord_same (e1.trans e2)]
    split
    · rename_i p
      rw [if_pos p, cmpI_le] at h k
      rw [cmpI_le]
      omega
    rename_i p
    rw [if_neg p] at h k
    split
    · rename_i p
      rw [if_pos p] at h k
      exact cmpS_trans h k
    rename_i p
    rw [if_neg p] at h k
    split
    · rename_i p
      rw [if_pos p] at h k
      exact cmpB_trans h k
    · omega
end Va
namespace Nm
def vdF : Nat → Int → List Int
  | 0, u => [u]
  | f + 1, u => if u < 128 then [u] else (u % 128 + 128) :: vdF f (u / 128)
def vd (u : Int) : List Int := vdF 9 u
def zz (n : Int) : Int := if n < 0 then -2 * n - 1 else 2 * n
def unz (u : Int) : Int := if u % 2 = 1 then -(u / 2) - 1 else u / 2
def gvF : Nat → Int → List Int → Int × Int × Int
  | _, _, [] => (0, 0, 6)
  | i, acc, c :: r =>
    if i = 9 ∧ 1 < c then (0, 0, 7)
    else if 128 ≤ c then gvF (i + 1) (acc + c % 128 * 128 ^ i) r
    else if c = 0 ∧ 0 < i then (0, 0, 7)
    else (acc + c * 128 ^ i, i + 1, 0)
def gv (b : List Int) : Int × Int × Int := gvF 0 0 b
def getI (b : List Int) : Int × Int × Int := if (gv b).2.2 = 0 then (unz (gv b).1, (gv b).2.1, 0) else (0, 0, (gv b).2.2)
def getL (b : List Int) : Int × Int × Int := if (gv b).2.2 = 0 then (if 9223372036854775807 < (gv b).1 then (0, 0, 7) else ((gv b).1, (gv b).2.1, 0)) else (0, 0, (gv b).2.2)
def Byt (b : List Int) : Prop := ∀ x, x ∈ b → 0 ≤ x ∧ x ≤ 255
theorem zz_lo (n : Int) : 0 ≤ zz n := by unfold zz; split <;> omega
theorem zz_hi (n : Int) (h1 : -9223372036854775808 ≤ n) (h2 : n ≤ 9223372036854775807) : zz n ≤ 18446744073709551615 := by unfold zz; split <;> omega
theorem unz_zz (n : Int) : unz (zz n) = n := by
  unfold unz zz
  by_cases h : n < 0
  · rw [if_pos h, if_pos (by omega)]; omega
  · rw [if_neg h, if_neg (by omega)]; omega
theorem zz_unz (u : Int) (h : 0 ≤ u) : zz (unz u) = u := by
  unfold unz zz
  by_cases h : u % 2 = 1
  · rw [if_pos h, if_pos (by omega)]; omega
  · rw [if_neg h, if_neg (by omega)]; omega
theorem unz_bd (u : Int) (h : 0 ≤ u) (h' : u ≤ 18446744073709551615) : -9223372036854775808 ≤ unz u ∧ unz u ≤ 9223372036854775807 := by
  unfold unz; split <;> omega
theorem vdF_lo (f : Nat) (u : Int) (h : u < 128) : vdF f u = [u] := by
  cases f with
  | zero => rfl
  | succ f => exact if_pos h
theorem vdF_hi (f : Nat) (u : Int) (h : ¬ u < 128) : vdF (f + 1) u = (u % 128 + 128) :: vdF f (u / 128) := if_neg h
theorem pow_up {a b : Nat} (h : a ≤ b) : (128 : Int) ^ a ≤ 128 ^ b := by
  induction b with
  | zero => obtain rfl : a = 0 := by omega
            exact Int.le_refl _
  | succ b ih =>
    rcases Nat.lt_or_ge b a with q | q
    · obtain rfl : a = b + 1 := by omega
      exact Int.le_refl _
    · have := ih q
      have hp : (0 : Int) < 128 ^ b := Int.pow_pos (by omega)
      rw [Int.pow_succ]; omega
theorem vdF_len (f : Nat) : ∀ u : Int, 1 ≤ (vdF f u).length ∧ (vdF f u).length ≤ f + 1 := by
  induction f with
  | zero => intro u; simp [vdF]
  | succ f ih =>
    intro u
    rw [vdF]
    split
    · simp
    · have := ih (u / 128); simp only [List.length_cons]; omega
theorem vd_len (u : Int) : 1 ≤ (vd u).length ∧ (vd u).length ≤ 10 := vdF_len 9 u
theorem vdF_byt (f : Nat) : ∀ u : Int, 0 ≤ u → u < 128 ^ (f + 1) → Byt (vdF f u) := by
  induction f with
  | zero => intro u h0 h1 x hx; simp [vdF] at hx; subst hx; simp at h1; omega
  | succ f ih =>
    intro u h0 h1
    rw [vdF]
    split
    · intro x hx; simp at hx; subst hx; omega
    · have e : (128 : Int) ^ (f + 1 + 1) = 128 ^ (f + 1) * 128 := Int.pow_succ 128 (f + 1)
      have := ih (u / 128) (by omega) (by rw [e] at h1; omega)
      intro x hx
      rcases List.mem_cons.1 hx with rfl | hx
      · omega
      · exact this x hx
theorem pow10 : (128 : Int) ^ (9 + 1) = 1180591620717411303424 := by decide
theorem vd_byt (u : Int) (h0 : 0 ≤ u) (h1 : u ≤ 18446744073709551615) : Byt (vd u) := vdF_byt 9 u h0 (by rw [pow10]; omega)
theorem vdF_mono (f : Nat) : ∀ u v : Int, u ≤ v → (vdF f u).length ≤ (vdF f v).length := by
  induction f with
  | zero => intro u v _; simp [vdF]
  | succ f ih =>
    intro u v h
    rw [vdF]
    split
    · have := (vdF_len (f + 1) v).1; simpa using this
    · rw [vdF, if_neg (by omega)]
      simpa using ih (u / 128) (v / 128) (by omega)
theorem gvF_vdF (f : Nat) : ∀ (i : Nat) (acc u : Int) (more : List Int), i + f = 9 → 0 ≤ u → u * 128 ^ i ≤ 18446744073709551615 → (0 < i → 0 < u) →
    gvF i acc (vdF f u ++ more) = (acc + u * 128 ^ i, ((i + (vdF f u).length : Nat) : Int), 0) := by
  induction f with
  | zero =>
    intro i acc u more hi h0 h1 hp
    obtain rfl : i = 9 := by omega
    have hu : u ≤ 1 := by
      have e : (128 : Int) ^ 9 = 9223372036854775808 := by decide
      rw [e] at h1; omega
    have hu1 := hp (by omega)
    simp only [vdF, List.cons_append, List.nil_append, gvF]
    rw [if_neg (by omega), if_neg (by omega), if_neg (by omega)]
    rfl
  | succ f ih =>
    intro i acc u more hi h0 h1 hp
    rw [vdF]
    by_cases hu : u < 128
    · rw [if_pos hu]
      simp only [List.cons_append, List.nil_append, gvF]
      rw [if_neg (by omega), if_neg (by omega), if_neg (by omega)]
      rfl
    · rw [if_neg hu]
      simp only [List.cons_append, gvF]
      rw [if_neg (by omega), if_pos (by omega)]
      have e : (128 : Int) ^ (i + 1) = 128 ^ i * 128 := Int.pow_succ 128 i
      have hpos : (0 : Int) < 128 ^ i := Int.pow_pos (by omega)
      have hd : u / 128 * 128 ^ (i + 1) ≤ u * 128 ^ i := by
        rw [e, Int.mul_comm (128 ^ i) 128, ← Int.mul_assoc]
        exact Int.mul_le_mul_of_nonneg_right (by omega) (by omega)
      rw [ih (i + 1) _ (u / 128) more (by omega) (by omega) (by omega) (by omega)]
      have em : (u % 128 + 128) % 128 = u % 128 := by omega
      have es : u % 128 * 128 ^ i + u / 128 * 128 ^ (i + 1) = u * 128 ^ i := by
        rw [e, Int.mul_comm (128 ^ i) 128, ← Int.mul_assoc, ← Int.add_mul]
        congr 1; omega
      rw [em]
      simp only [List.length_cons, Prod.mk.injEq, and_true]
      refine ⟨by omega, by omega⟩
theorem gv_vd (u : Int) (more : List Int) (h0 : 0 ≤ u) (h1 : u ≤ 18446744073709551615) : gv (vd u ++ more) = (u, ((vd u).length : Int), 0) := by
  have := gvF_vdF 9 0 0 u more rfl h0 (by simpa using h1) (by omega)
  unfold gv vd
  rw [this]; simp
theorem gvF_only : ∀ (b : List Int) (i : Nat) (acc : Int), Byt b → i ≤ 9 → (gvF i acc b).2.2 = 0 →
    ∃ (k : Nat) (u : Int), gvF i acc b = (acc + u * 128 ^ i, ((i + k : Nat) : Int), 0) ∧ 1 ≤ k ∧ k ≤ b.length ∧ i + k ≤ 10 ∧ 0 ≤ u ∧ u * 128 ^ i ≤ 18446744073709551615 - (128 ^ i - 1) ∧ (0 < i → 0 < u) ∧ b.take k = vdF (9 - i) u ∧
      ∀ j, j < k → gvF i acc (b.take j) = (0, 0, 6) := by
  intro b
  induction b with
  | nil => intro i acc _ _ h; simp [gvF] at h
  | cons c r ih =>
    intro i acc hb hi h
    have hc := hb c (by simp)
    have hr : Byt r := fun x hx => hb x (by simp [hx])
    have e : (128 : Int) ^ (i + 1) = 128 ^ i * 128 := Int.pow_succ 128 i
    have hpos : (0 : Int) < 128 ^ i := Int.pow_pos (by omega)
    have h9 : (128 : Int) ^ 9 = 9223372036854775808 := by decide
    rw [gvF] at h ⊢
    by_cases q1 : i = 9 ∧ 1 < c
    · rw [if_pos q1] at h; simp at h
    · rw [if_neg q1] at h ⊢
      by_cases q2 : 128 ≤ c
      · rw [if_pos q2] at h ⊢
        have hi' : i + 1 ≤ 9 := by omega
        obtain ⟨k, u, hk, k1, k2, k3, u0, u1, up, ht, hj⟩ := ih (i + 1) _ hr hi' h
        have up := up (by omega)
        have es : c % 128 * 128 ^ i + u * 128 ^ (i + 1) = (u * 128 + c % 128) * 128 ^ i := by
          rw [e, Int.mul_comm (128 ^ i) 128, ← Int.mul_assoc, ← Int.add_mul]
          congr 1; omega
        refine ⟨k + 1, u * 128 + c % 128, ?_, by omega, by simp; omega, by omega, by omega, ?_, by omega, ?_, ?_⟩
        · rw [hk]
          simp only [Prod.mk.injEq, and_true]
          exact ⟨by omega, by omega⟩
        · have hle : c % 128 * 128 ^ i ≤ 127 * 128 ^ i := Int.mul_le_mul_of_nonneg_right (by omega) (by omega)
          rw [← es]
          omega
        · have e9 : 9 - i = (9 - (i + 1)) + 1 := by omega
          rw [e9, vdF, if_neg (by omega), List.take_succ_cons, ht]
          have a1 : (u * 128 + c % 128) % 128 + 128 = c := by omega
          have a2 : (u * 128 + c % 128) / 128 = u := by omega
          rw [a1, a2]
        · intro j hjk
          cases j with
          | zero => simp [gvF]
          | succ j =>
            rw [List.take_succ_cons, gvF, if_neg q1, if_pos q2]
            exact hj j (by omega)
      · rw [if_neg q2] at h ⊢
        by_cases q3 : c = 0 ∧ 0 < i
        · rw [if_pos q3] at h; simp at h
        · rw [if_neg q3]
          refine ⟨1, c, rfl, by omega, by simp, by omega, by omega, ?_, by omega, ?_, ?_⟩
          · rcases Nat.lt_or_ge i 9 with h8 | h8
            · have hle : c * 128 ^ i ≤ 127 * 128 ^ i := Int.mul_le_mul_of_nonneg_right (by omega) (by omega)
              have hm : (128 : Int) ^ i ≤ 128 ^ 8 := pow_up (by omega)
              have h8' : (128 : Int) ^ 8 = 72057594037927936 := by decide
              omega
            · obtain rfl : i = 9 := by omega
              rw [h9]
              have : c ≤ 1 := by omega
              omega
          · rw [List.take_succ_cons, List.take_zero]
            generalize 9 - i = f
            cases f with
            | zero => rfl
            | succ f => rw [vdF, if_pos (by omega)]
          · intro j hj
            obtain rfl : j = 0 := by omega
            simp [gvF]
theorem gv_only (b : List Int) (hb : Byt b) (h : (gv b).2.2 = 0) :
    ∃ (k : Nat) (u : Int), gv b = (u, (k : Int), 0) ∧ 1 ≤ k ∧ k ≤ b.length ∧ k ≤ 10 ∧ 0 ≤ u ∧ u ≤ 18446744073709551615 ∧ b.take k = vd u ∧ ∀ j, j < k → gv (b.take j) = (0, 0, 6) := by
  obtain ⟨k, u, hk, k1, k2, k3, u0, u1, _, ht, hj⟩ := gvF_only b 0 0 hb (by omega) h
  exact ⟨k, u, by unfold gv; rw [hk]; simp, k1, k2, by omega, u0, by simpa using u1, ht, hj⟩
theorem gvF_err : ∀ (b : List Int) (i : Nat) (acc : Int), (gvF i acc b).2.2 = 0 ∨ gvF i acc b = (0, 0, 6) ∨ gvF i acc b = (0, 0, 7) := by
  intro b
  induction b with
  | nil => intro i acc; exact .inr (.inl rfl)
  | cons c r ih =>
    intro i acc
    rw [gvF]
    split
    · exact .inr (.inr rfl)
    · split
      · exact ih _ _
      · split
        · exact .inr (.inr rfl)
        · exact .inl rfl
theorem gv_err (b : List Int) : (gv b).2.2 = 0 ∨ gv b = (0, 0, 6) ∨ gv b = (0, 0, 7) := gvF_err b 0 0
end Nm
end Go.Proofs.YtaoeipehpakngaaGreatDoor
namespace Go.Proofs.YtaoeipehpakngaaGreatDoor
set_option maxRecDepth 20000
open Go.RowKit
namespace Lw
theorem byt_of {xs : List Int} (h : Wd.Fits .u8 xs) : Nm.Byt xs := fun x hx => by
  have := h x hx
  simp [Lit.wf, IntKind.min, IntKind.max, IntKind.signed, IntKind.bits] at this
  omega
theorem byt_app {xs ys : List Int} (h : Nm.Byt xs) (h' : Nm.Byt ys) : Nm.Byt (xs ++ ys) := fun x hx => by
  rcases List.mem_append.1 hx with q | q
  · exact h x q
  · exact h' x q
theorem getI_vd (n : Int) (more : List Int) (n1 : -9223372036854775808 ≤ n) (n2 : n ≤ 9223372036854775807) : Nm.getI (Nm.vd (Nm.zz n) ++ more) = (n, ((Nm.vd (Nm.zz n)).length : Int), 0) := by
  unfold Nm.getI
  rw [Nm.gv_vd _ _ (Nm.zz_lo n) (Nm.zz_hi n n1 n2)]
  show (Nm.unz (Nm.zz n), _, _) = _
  rw [Nm.unz_zz]
theorem getL_vd (n : Int) (more : List Int) (n1 : 0 ≤ n) (n2 : n ≤ 9223372036854775807) : Nm.getL (Nm.vd n ++ more) = (n, ((Nm.vd n).length : Int), 0) := by
  unfold Nm.getL
  rw [Nm.gv_vd _ _ n1 (by omega)]
  exact if_neg (show ¬ 9223372036854775807 < n by omega)
end Lw
end Go.Proofs.YtaoeipehpakngaaGreatDoor
