/- The functions that take bits one by one, in Pack, Unpack, At and hasOne: what each bit does to what they have captured. -/
import Derived.Test.YtadhppfplndhoaaBitsPass
namespace Go.Proofs.Ytadhppfplndhoaa
open Go.RowKit
namespace Bc

theorem goes_pack : Goes 23 := fun _ _ => by kernel_rfl
theorem goes_unpack : Goes 28 := fun _ _ => by kernel_rfl
theorem goes_at : Goes 30 := fun _ _ => by kernel_rfl
theorem goes_one : Goes 31 := fun _ _ => by kernel_rfl

theorem getD_bit {wd : Nat} {l : List Int} (h : Bt.InR wd l) (j : Nat) (hj : j < wd * l.length) : l.getD (j / wd) 0 / 2 ^ (j % wd) % 2 = Bt.ofD wd l / 2 ^ j % 2 := by
  have hw : 0 < wd := by
    rcases Nat.eq_zero_or_pos wd with h0 | h0
    · rw [h0, Nat.zero_mul] at hj; omega
    · exact h0
  have h1 : j / wd < l.length := Nat.div_lt_of_lt_mul hj
  have h2 := Bt.bit_dig wd (Bt.ofD wd l) (j / wd) (j % wd) (Nat.mod_lt _ hw)
  rw [Nat.div_add_mod, Bt.dig_ofD h _ h1] at h2
  exact h2.symm
theorem bit01 (v : Int) : 0 ≤ v % 2 ∧ v % 2 ≤ 1 := by omega

theorem pack1_any (g p q n k : Nat) (x bit : Int) (w : World) (hk : k / 8 < n) (hn : n ≤ 40000)
    (hp : w.cell? ⟨p, 0, none⟩ = some (.slice (some ⟨g, 0, none⟩) n n)) (hq : w.cell? ⟨q, 0, none⟩ = some (.int .i64 k)) (hqf : w.frozen? ⟨q, 0, none⟩ = false)
    (hg : w.cell? ⟨g, k / 8, none⟩ = some (.int .u8 x)) (hgf : w.frozen? ⟨g, k / 8, none⟩ = false) (hgq : ¬ q = g) :
    Calls Try.prog 23 #[.int .i64 bit, .pointer (some ⟨p, 0, none⟩), .pointer (some ⟨q, 0, none⟩)] w fun e w' => e = .returned (.tuple #[]) ∧ ((w.setCell ⟨g, k / 8, none⟩ (.int .u8 (bits BinOp.or IntKind.u8 x (wrap64 (bit * 2 ^ (k % 8)) % 256)))).setCell ⟨q, 0, none⟩ (.int .i64 ((k : Int) + 1))).drew = w' := by
  go_enter Try.func23, Try.ntmps23
  go_wp2
  go_region
  go_wp2
  go_end0
  exact ⟨rfl, rfl⟩
theorem unpack1_any (g p q r n k wd : Nat) (x bit : Int) (w : World) (hwd : 1 ≤ wd) (hwd2 : wd ≤ 62) (hk : k / wd < n) (hn : n ≤ 40000) (hkk : k ≤ 10000000)
    (hp : w.cell? ⟨p, 0, none⟩ = some (.slice (some ⟨g, 0, none⟩) n n)) (hq : w.cell? ⟨q, 0, none⟩ = some (.int .i64 k)) (hqf : w.frozen? ⟨q, 0, none⟩ = false) (hr : w.cell? ⟨r, 0, none⟩ = some (.int .i64 wd))
    (hg : w.cell? ⟨g, k / wd, none⟩ = some (.int .i64 x)) (hgf : w.frozen? ⟨g, k / wd, none⟩ = false) (hgq : ¬ q = g) :
    Calls Try.prog 28 #[.int .i64 bit, .pointer (some ⟨p, 0, none⟩), .pointer (some ⟨q, 0, none⟩), .pointer (some ⟨r, 0, none⟩)] w fun e w' => e = .returned (.tuple #[]) ∧ ((w.setCell ⟨g, k / wd, none⟩ (.int .i64 (bits BinOp.or IntKind.i64 x (wrap64 (bit * 2 ^ (k % wd)))))).setCell ⟨q, 0, none⟩ (.int .i64 ((k : Int) + 1))).drew = w' := by
  have hd0 : 0 ≤ (k : Int) / (wd : Int) := Int.ediv_nonneg (by omega) (by omega)
  have hd1 : (k : Int) / (wd : Int) < (n : Int) := by
    have : (k : Int) / (wd : Int) = ((k / wd : Nat) : Int) := by simp
    rw [this]; omega
  have hm0 : 0 ≤ (k : Int) % (wd : Int) := Int.emod_nonneg _ (by omega)
  have hm1 : (k : Int) % (wd : Int) ≤ 61 := by have := Int.emod_lt_of_pos (k : Int) (show (0 : Int) < wd by omega); omega
  go_enter Try.func28, Try.ntmps28
  go_wp2
  go_region
  go_wp2
  go_end0
  exact ⟨rfl, rfl⟩
theorem at1_any (p q k : Nat) (x bit : Int) (w : World) (hk : k ≤ 62)
    (hp : w.cell? ⟨p, 0, none⟩ = some (.int .i64 x)) (hpf : w.frozen? ⟨p, 0, none⟩ = false) (hq : w.cell? ⟨q, 0, none⟩ = some (.int .i64 k)) (hqf : w.frozen? ⟨q, 0, none⟩ = false) (hpq : ¬ q = p) :
    Calls Try.prog 30 #[.int .i64 bit, .pointer (some ⟨p, 0, none⟩), .pointer (some ⟨q, 0, none⟩)] w fun e w' => e = .returned (.tuple #[]) ∧ ((w.setCell ⟨p, 0, none⟩ (.int .i64 (bits BinOp.or IntKind.i64 x (wrap64 (bit * 2 ^ k))))).setCell ⟨q, 0, none⟩ (.int .i64 ((k : Int) + 1))).drew = w' := by
  go_enter Try.func30, Try.ntmps30
  go_wp2
  go_region
  go_wp2
  go_end0
  exact ⟨rfl, rfl⟩
theorem one1_any (p : Nat) (x bit : Int) (w : World)
    (hp : w.cell? ⟨p, 0, none⟩ = some (.int .i64 x)) (hpf : w.frozen? ⟨p, 0, none⟩ = false) :
    Calls Try.prog 31 #[.int .i64 bit, .pointer (some ⟨p, 0, none⟩)] w fun e w' => e = .returned (.tuple #[]) ∧ w.setCell ⟨p, 0, none⟩ (.int .i64 (bits BinOp.or IntKind.i64 x bit)) = w' := by
  go_enter Try.func31, Try.ntmps31
  go_wp2
  go_end0
  exact ⟨rfl, rfl⟩

/-- Behind k bits of T: Pack's bytes. -/
def PackI (w0 : World) (B g p q n : Nat) (T : Int) (k : Nat) (w : World) : Prop :=
  Wd.Row w g .u8 5 (Bt.toD 8 n (T % 2 ^ k)) ∧ Wd.Var w p 24 (.slice (some ⟨g, 0, none⟩) n n) ∧ Wd.Var w q 3 (.int .i64 k) ∧ Below B w0 w
theorem pack_takes (w0 : World) (B g p q n cnt : Nat) (T : Int) (bit : Nat → Int) (hbit : ∀ k, k < cnt → bit k = T / 2 ^ k % 2) (hn : n ≤ 40000) (hc : cnt ≤ 8 * n) (hg : B ≤ g) (hq : B ≤ q) (d1 : g ≠ p) (d2 : g ≠ q) (d3 : p ≠ q) :
    Takes 23 #[.pointer (some ⟨p, 0, none⟩), .pointer (some ⟨q, 0, none⟩)] bit cnt (PackI w0 B g p q n T) := by
  intro k w hk ⟨hR, hP, hQ, hB⟩
  rw [hbit k hk]
  have hkn : k / 8 < n := by omega
  have c1 := hR.cell (k / 8) (by rw [Bt.toD_len]; exact hkn)
  rw [Bt.toD_get _ _ _ _ hkn] at c1
  refine (pack1_any g p q n k _ (T / 2 ^ k % 2) w hkn hn hP.cell hQ.cell hQ.free c1 (hR.free _) (fun e => d2 e.symm)).mono ?_
  rintro e w' ⟨rfl, rfl⟩
  have b := bit01 (T / 2 ^ k)
  rw [Bt.or8 (k % 8) _ _ (by omega) (Bt.dig_lo _ _ _) (Bt.dig_old 8 k _ (by omega) (Bt.mod_lo T k) (Bt.mod_hi T k)) b.1 b.2]
  refine ⟨rfl, ?_, ?_, ?_, ?_⟩
  · have := ((hR.set (k / 8) (Bt.dig 8 (T % 2 ^ k) (k / 8) + T / 2 ^ k % 2 * 2 ^ (k % 8))).other (u := .int .i64 ((k : Int) + 1)) (a := ⟨q, 0, none⟩) d2).drew
    rw [← Bt.toD_bit 8 n k _ _ (by omega) (Bt.mod_lo T k) (Bt.mod_hi T k) b.1 b.2, ← Bt.mod_bit] at this
    exact this
  · exact ((hP.other (fun e => d1 e.symm)).other d3).drew
  · exact ((hQ.other (fun e => d2 e.symm)).set).drew
  · exact ((hB.setCell hg _).setCell hq _).drew

/-- Behind k bits of V: Unpack's numbers. -/
def UnI (w0 : World) (B g p q r n wd : Nat) (V : Int) (k : Nat) (w : World) : Prop :=
  Wd.Row w g .i64 3 (Bt.toD wd n (V % 2 ^ k)) ∧ Wd.Var w p 22 (.slice (some ⟨g, 0, none⟩) n n) ∧ Wd.Var w q 3 (.int .i64 k) ∧ Wd.Var w r 3 (.int .i64 wd) ∧ Below B w0 w
theorem un_takes (w0 : World) (B g p q r n wd cnt : Nat) (V : Int) (bit : Nat → Int) (hbit : ∀ k, k < cnt → bit k = V / 2 ^ k % 2) (hn : n ≤ 40000) (hwd : wd ≤ 62) (hc : cnt ≤ wd * n) (hg : B ≤ g) (hq : B ≤ q) (d1 : g ≠ p) (d2 : g ≠ q) (d3 : p ≠ q) (d4 : r ≠ g) (d5 : r ≠ q) :
    Takes 28 #[.pointer (some ⟨p, 0, none⟩), .pointer (some ⟨q, 0, none⟩), .pointer (some ⟨r, 0, none⟩)] bit cnt (UnI w0 B g p q r n wd V) := by
  intro k w hk ⟨hR, hP, hQ, hW, hB⟩
  rw [hbit k hk]
  have hw : 1 ≤ wd := by
    rcases Nat.eq_zero_or_pos wd with h0 | h0
    · rw [h0, Nat.zero_mul] at hc; omega
    · exact h0
  have hkn : k / wd < n := Nat.div_lt_of_lt_mul (by omega)
  have hkk : k ≤ 10000000 := by
    have := Nat.mul_le_mul hwd hn
    omega
  have hm := Nat.mod_lt k hw
  have c1 := hR.cell (k / wd) (by rw [Bt.toD_len]; exact hkn)
  rw [Bt.toD_get _ _ _ _ hkn] at c1
  refine (unpack1_any g p q r n k wd _ (V / 2 ^ k % 2) w hw hwd hkn hn hkk hP.cell hQ.cell hQ.free hW.cell c1 (hR.free _) (fun e => d2 e.symm)).mono ?_
  rintro e w' ⟨rfl, rfl⟩
  have b := bit01 (V / 2 ^ k)
  rw [Bt.or64 (k % wd) _ _ (by omega) (Bt.dig_lo _ _ _) (Bt.dig_old wd k _ hw (Bt.mod_lo V k) (Bt.mod_hi V k)) b.1 b.2]
  refine ⟨rfl, ?_, ?_, ?_, ?_, ?_⟩
  · have := ((hR.set (k / wd) (Bt.dig wd (V % 2 ^ k) (k / wd) + V / 2 ^ k % 2 * 2 ^ (k % wd))).other (u := .int .i64 ((k : Int) + 1)) (a := ⟨q, 0, none⟩) d2).drew
    rw [← Bt.toD_bit wd n k _ _ hw (Bt.mod_lo V k) (Bt.mod_hi V k) b.1 b.2, ← Bt.mod_bit] at this
    exact this
  · exact ((hP.other (fun e => d1 e.symm)).other d3).drew
  · exact ((hQ.other (fun e => d2 e.symm)).set).drew
  · exact ((hW.other d4).other d5).drew
  · exact ((hB.setCell hg _).setCell hq _).drew

/-- Behind k bits of V: At's number. -/
def AtI (w0 : World) (B p q : Nat) (V : Int) (k : Nat) (w : World) : Prop :=
  Wd.Var w p 3 (.int .i64 (V % 2 ^ k)) ∧ Wd.Var w q 3 (.int .i64 k) ∧ Below B w0 w
theorem at_takes (w0 : World) (B p q cnt : Nat) (V : Int) (bit : Nat → Int) (hbit : ∀ k, k < cnt → bit k = V / 2 ^ k % 2) (hc : cnt ≤ 62) (hp : B ≤ p) (hq : B ≤ q) (d3 : p ≠ q) :
    Takes 30 #[.pointer (some ⟨p, 0, none⟩), .pointer (some ⟨q, 0, none⟩)] bit cnt (AtI w0 B p q V) := by
  intro k w hk ⟨hP, hQ, hB⟩
  rw [hbit k hk]
  refine (at1_any p q k _ (V / 2 ^ k % 2) w (by omega) hP.cell hP.free hQ.cell hQ.free (fun e => d3 e.symm)).mono ?_
  rintro e w' ⟨rfl, rfl⟩
  have b := bit01 (V / 2 ^ k)
  rw [Bt.or64 k _ _ (by omega) (Bt.mod_lo V k) (Bt.mod_hi V k) b.1 b.2, ← Bt.mod_bit]
  exact ⟨rfl, (hP.set.other d3).drew, ((hQ.other (fun e => d3 e.symm)).set).drew, ((hB.setCell hp _).setCell hq _).drew⟩

/-- Behind k bits of V: whether one of them is 1. -/
def OneI (w0 : World) (B p : Nat) (V : Int) (k : Nat) (w : World) : Prop :=
  Wd.Var w p 3 (.int .i64 (if V % 2 ^ k = 0 then 0 else 1)) ∧ Below B w0 w
theorem one_takes (w0 : World) (B p cnt : Nat) (V : Int) (bit : Nat → Int) (hbit : ∀ k, k < cnt → bit k = V / 2 ^ k % 2) (hp : B ≤ p) :
    Takes 31 #[.pointer (some ⟨p, 0, none⟩)] bit cnt (OneI w0 B p V) := by
  intro k w hk ⟨hP, hB⟩
  rw [hbit k hk]
  refine (one1_any p _ (V / 2 ^ k % 2) w hP.cell hP.free).mono ?_
  rintro e w' ⟨rfl, rfl⟩
  have b := bit01 (V / 2 ^ k)
  have hm := Bt.mod_bit V k
  have h1 := Bt.mod_lo V k
  have hpk := Bt.p0 k
  refine ⟨rfl, ?_, hB.setCell hp _⟩
  have e : bits BinOp.or IntKind.i64 (if V % 2 ^ k = 0 then 0 else 1) (V / 2 ^ k % 2) = if V % 2 ^ (k + 1) = 0 then 0 else 1 := by
    rw [Bt.or01 _ _ (by split <;> omega) (by split <;> omega) b.1 b.2]
    rw [hm]
    rcases (show V / 2 ^ k % 2 = 0 ∨ V / 2 ^ k % 2 = 1 by omega) with h | h
    · rw [h]
      by_cases h0 : V % 2 ^ k = 0
      · simp [h0]
      · rw [if_neg h0, if_neg (by omega), if_neg (by omega)]
    · rw [h, if_neg (by omega), if_neg (by omega)]
  rw [e]
  exact hP.set
end Bc
end Go.Proofs.Ytadhppfplndhoaa
