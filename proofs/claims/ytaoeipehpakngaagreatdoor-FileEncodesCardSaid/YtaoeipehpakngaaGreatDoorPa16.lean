/- The functions of package bits that pass bits to another function, for whatever function: passBits, passNumbers; Width, isWidth, bytesFor. The functions that take bits one by one, in Pack, Unpack, At and hasOne: what each bit does to what they have captured. What package bits does with bits beyond and what goes with it. -/
import Derived.WalkSpells
import Derived.Lib.Hide
import Derived.RegionTactic
import Derived.Test.YtaoeipehpakngaaGreatDoorProg
import Derived.Test.YtaoeipehpakngaaGreatDoorPa02
import Derived.Test.YtaoeipehpakngaaGreatDoorPa12
namespace Go.Proofs.YtaoeipehpakngaaGreatDoor
set_option maxRecDepth 20000
open Go.RowKit
namespace Bc
def Takes (f : Nat) (cap : Array Value) (bit : Nat → Int) (cnt : Nat) (Inv : Nat → World → Prop) : Prop :=
  ∀ k w, k < cnt → Inv k w → Calls Tryz.prog f (#[.int .i64 (bit k)] ++ cap) w fun e w' => e = .returned (.tuple #[]) ∧ Inv (k + 1) w'
def Goes (f : Nat) : Prop := ∀ (args : Array Value) (w : World), (callFunc f args).run Tryz.prog w = .ok (.enter f args) w
set_option maxHeartbeats 400000 in
theorem passBits_any (f : Nat) (cap : Array Value) (A : Option Addr) (m c B a cnt : Nat) (bs : List Int) (Inv : Nat → World → Prop) (w : World) (hm : m = bs.length) (hmx : m ≤ 1000000) (hbd : a + cnt ≤ 8 * m) (hB : Bt.InR 8 bs)
    (hf : Goes f) (hr : ∀ k w, Inv k w → Wd.Rd w B .u8 A bs) (hs : Takes f cap (fun k => bs.getD ((a + k) / 8) 0 / 2 ^ ((a + k) % 8) % 2) cnt Inv) (h0 : Inv 0 w) :
    Calls Tryz.prog 217 #[.slice A m c, .int .i64 a, .int .i64 cnt, .func (.func f) #[] cap] w fun e w' => e = .returned (.tuple #[]) ∧ Inv cnt w' := by
  have Hs := Lib.hid hs
  have Hr := Lib.hid hr
  have HB := Lib.hid hB
  have Hm := Lib.hid hm
  unfold Goes at hf
  clear hs hr hB hm
  go_enter Tryz.func217, Tryz.ntmps217
  go_wp2
  go_loopw [8] (fun i wr => ∃ k : Nat, i = .int .i64 (a + k : Nat) ∧ k ≤ cnt ∧ Inv k wr) (fun i _ => a + cnt - (intOf i).toNat)
  case atStart => exact ⟨0, rfl, Nat.zero_le _, h0⟩
  case round =>
    obtain ⟨k, rfl, hk, hI⟩ := hrel
    by_cases hlt : k < cnt
    · have hq : (a + k) / 8 < m := by omega
      obtain ⟨b, o, rfl, hbB, hcell⟩ := (Hr.out k wr hI) ((a + k) / 8) (by rw [← Hm.out]; exact hq)
      obtain ⟨x, hx⟩ : ∃ x, x = bs.getD ((a + k) / 8) 0 := ⟨_, rfl⟩
      have hx2 : 0 ≤ x ∧ x < 2 ^ 8 := HB.out x (by rw [hx]; simp [List.getD, show (a + k) / 8 < bs.length by rw [← Hm.out]; exact hq])
      have hx0 := hx2.1
      have hx1 : x ≤ 255 := by have := hx2.2; rw [show (2 : Int) ^ 8 = 256 by decide] at this; omega
      have hc := Hs.out k wr hlt hI
      dsimp only at hc
      rw [← hx, ← byte_bit x _ hx0 hx1] at hc
      rw [← hx] at hcell
      have Hc := Lib.hid hc
      clear hx hc hx2
      go_wp2_with fail
      refine Hc.out.mono ?_
      rintro e w' ⟨rfl, hI'⟩
      go_wp2_with fail
      go_roundw
      case rel => exact ⟨k + 1, by go_num, by omega, hI'⟩
      case measure => simp [intOf]; omega
    · go_wp2_with fail
      go_end0
      obtain rfl : k = cnt := by omega
      exact ⟨rfl, hI⟩
theorem isWidth_yes (n : Int) (w : World) (h1 : 0 ≤ n) (h2 : n ≤ 62) :
    Calls Tryz.prog 214 #[.int .i64 n] w fun e w' => e = .returned (.bool true) ∧ w = w' := by
  go_enter Tryz.func214, Tryz.ntmps214
  go_wp2
  go_ret
  exact ⟨rfl, rfl⟩
theorem isWidth_no (n : Int) (w : World) (h : n < 0 ∨ 62 < n) :
    Calls Tryz.prog 214 #[.int .i64 n] w fun e w' => e = .returned (.bool false) ∧ w = w' := by
  rcases h with h | h
  · go_enter Tryz.func214, Tryz.ntmps214
    go_wp2
    go_ret
    exact ⟨rfl, rfl⟩
  · have h' : 0 ≤ n := by omega
    go_enter Tryz.func214, Tryz.ntmps214
    go_wp2
    go_ret
    exact ⟨congrArg (fun b : Bool => Ending.returned (.bool b)) (decide_eq_false (by omega)), rfl⟩
theorem bytesFor_any (n k : Nat) (w : World) (h1 : n ≤ 4096) (h2 : k ≤ 62) :
    Calls Tryz.prog 215 #[.int .i64 n, .int .i64 k] w fun e w' => e = .returned (.int .i64 ((n * k + 7) / 8 : Nat)) ∧ w = w' := by
  obtain ⟨p1, p2⟩ := prod_le n k h1 h2
  go_enter Tryz.func215, Tryz.ntmps215
  go_wp2
  go_ret
  exact ⟨ret_int (by omega), rfl⟩
theorem Width_any (n : Int) (w : World) (h1 : -9223372036854775808 ≤ n) (h2 : n ≤ 9223372036854775807) :
    Calls Tryz.prog 204 #[.int .i64 n] w fun e w' => e = .returned (.int .i64 (wid n)) ∧ w = w' := by
  have hw := wid_63 n h2
  go_enter Tryz.func204, Tryz.ntmps204
  go_wp2_with fail
  go_loop [0, 3] (fun i d => ∃ (u : Int) (k : Nat), i = .int .i64 u ∧ d = .int .i64 k ∧ -9223372036854775808 ≤ u ∧ u ≤ 9223372036854775807 ∧ k + wid u = wid n) (fun i _ => (intOf i).toNat)
  case atStart => exact ⟨n, 0, rfl, rfl, h1, h2, by omega⟩
  case round =>
    obtain ⟨u, k, rfl, rfl, u1, u2, hk⟩ := hrel
    have Hk := Lib.hid hk
    have hk' : k ≤ 63 := by omega
    clear hk
    by_cases hlt : 0 < u
    · go_wp2_with fail
      go_round
      case rel =>
        have := Hk.out
        rw [wid_hi u hlt] at this
        refine ⟨u / 2, k + 1, rfl, by go_num, by omega, by omega, by omega⟩
      case measure => simp [intOf]; omega
    · go_wp2_with fail
      go_ret
      have := Hk.out
      rw [wid_lo u (by omega)] at this
      exact ⟨congrArg (fun x : Nat => Ending.returned (.int .i64 x)) (by simpa using this), rfl⟩
end Bc
namespace Bc
theorem goes_unpack : Goes 218 := fun _ _ => by kernel_rfl
theorem goes_one : Goes 246 := fun _ _ => by kernel_rfl
theorem unpack1_any (g p q r n k wd : Nat) (x bit : Int) (w : World) (hwd : 1 ≤ wd) (hwd2 : wd ≤ 62) (hk : k / wd < n) (hn : n ≤ 40000) (hkk : k ≤ 10000000)
    (hp : w.cell? ⟨p, 0, none⟩ = some (.slice (some ⟨g, 0, none⟩) n n)) (hq : w.cell? ⟨q, 0, none⟩ = some (.int .i64 k)) (hqf : w.frozen? ⟨q, 0, none⟩ = false) (hr : w.cell? ⟨r, 0, none⟩ = some (.int .i64 wd))
    (hg : w.cell? ⟨g, k / wd, none⟩ = some (.int .i64 x)) (hgf : w.frozen? ⟨g, k / wd, none⟩ = false) (hgq : ¬ q = g) :
    Calls Tryz.prog 218 #[.int .i64 bit, .pointer (some ⟨p, 0, none⟩), .pointer (some ⟨q, 0, none⟩), .pointer (some ⟨r, 0, none⟩)] w fun e w' => e = .returned (.tuple #[]) ∧ ((w.setCell ⟨g, k / wd, none⟩ (.int .i64 (bits BinOp.or IntKind.i64 x (wrap64 (bit * 2 ^ (k % wd)))))).setCell ⟨q, 0, none⟩ (.int .i64 ((k : Int) + 1))).drew = w' := by
  have hd0 : 0 ≤ (k : Int) / (wd : Int) := Int.ediv_nonneg (by omega) (by omega)
  have hd1 : (k : Int) / (wd : Int) < (n : Int) := by
    have : (k : Int) / (wd : Int) = ((k / wd : Nat) : Int) := by simp
    rw [this]; omega
  have hm0 : 0 ≤ (k : Int) % (wd : Int) := Int.emod_nonneg _ (by omega)
  have hm1 : (k : Int) % (wd : Int) ≤ 61 := by have := Int.emod_lt_of_pos (k : Int) (show (0 : Int) < wd by omega); omega
  go_enter Tryz.func218, Tryz.ntmps218
  go_wp2
  go_region
  go_wp2
  go_end0
  exact ⟨rfl, rfl⟩
theorem one1_any (p : Nat) (x bit : Int) (w : World)
    (hp : w.cell? ⟨p, 0, none⟩ = some (.int .i64 x)) (hpf : w.frozen? ⟨p, 0, none⟩ = false) :
    Calls Tryz.prog 246 #[.int .i64 bit, .pointer (some ⟨p, 0, none⟩)] w fun e w' => e = .returned (.tuple #[]) ∧ w.setCell ⟨p, 0, none⟩ (.int .i64 (bits BinOp.or IntKind.i64 x bit)) = w' := by
  go_enter Tryz.func246, Tryz.ntmps246
  go_wp2
  go_end0
  exact ⟨rfl, rfl⟩
def UnI (w0 : World) (B g p q r n wd : Nat) (V : Int) (k : Nat) (w : World) : Prop :=
  Wd.Row w g .i64 3 (Bt.toD wd n (V % 2 ^ k)) ∧ Wd.Var w p 25 (.slice (some ⟨g, 0, none⟩) n n) ∧ Wd.Var w q 3 (.int .i64 k) ∧ Wd.Var w r 3 (.int .i64 wd) ∧ Below B w0 w
theorem un_takes (w0 : World) (B g p q r n wd cnt : Nat) (V : Int) (bit : Nat → Int) (hbit : ∀ k, k < cnt → bit k = V / 2 ^ k % 2) (hn : n ≤ 40000) (hwd : wd ≤ 62) (hc : cnt ≤ wd * n) (hg : B ≤ g) (hq : B ≤ q) (d1 : g ≠ p) (d2 : g ≠ q) (d3 : p ≠ q) (d4 : r ≠ g) (d5 : r ≠ q) :
    Takes 218 #[.pointer (some ⟨p, 0, none⟩), .pointer (some ⟨q, 0, none⟩), .pointer (some ⟨r, 0, none⟩)] bit cnt (UnI w0 B g p q r n wd V) := by
  intro k w hk ⟨hR, hP, hQ, hW, hB⟩
  rw [hbit k hk]
  have hw : 1 ≤ wd := by
    rcases Nat.eq_zero_or_pos wd with h0 | h0
    · rw [h0, Nat.zero_mul] at hc; omega
    · exact h0
  have hkn : k / wd < n := Nat.div_lt_of_lt_mul (by omega)
  have hkk : k ≤ 10000000 := by
    have := Nat.mul_le_mul hwd hn
    omega
  have hm := Nat.mod_lt k hw
  have c1 := hR.cell (k / wd) (by rw [Bt.toD_len]; exact hkn)
  rw [Bt.toD_get _ _ _ _ hkn] at c1
  refine (unpack1_any g p q r n k wd _ (V / 2 ^ k % 2) w hw hwd hkn hn hkk hP.cell hQ.cell hQ.free hW.cell c1 (hR.free _) (fun e => d2 e.symm)).mono ?_
  rintro e w' ⟨rfl, rfl⟩
  have b := bit01 (V / 2 ^ k)
  rw [Bt.or64 (k % wd) _ _ (by omega) (Bt.dig_lo _ _ _) (Bt.dig_old wd k _ hw (Bt.mod_lo V k) (Bt.mod_hi V k)) b.1 b.2]
  refine ⟨rfl, ?_, ?_, ?_, ?_, ?_⟩
  · have := ((hR.set (k / wd) (Bt.dig wd (V % 2 ^ k) (k / wd) + V / 2 ^ k % 2 * 2 ^ (k % wd))).other (u := .int .i64 ((k : Int) + 1)) (a := ⟨q, 0, none⟩) d2).drew
    rw [← Bt.toD_bit wd n k _ _ hw (Bt.mod_lo V k) (Bt.mod_hi V k) b.1 b.2, ← Bt.mod_bit] at this
    exact this
  · exact ((hP.other (fun e => d1 e.symm)).other d3).drew
  · exact ((hQ.other (fun e => d2 e.symm)).set).drew
  · exact ((hW.other d4).other d5).drew
  · exact ((hB.setCell hg _).setCell hq _).drew
def OneI (w0 : World) (B p : Nat) (V : Int) (k : Nat) (w : World) : Prop :=
  Wd.Var w p 3 (.int .i64 (if V % 2 ^ k = 0 then 0 else 1)) ∧ Below B w0 w
theorem one_takes (w0 : World) (B p cnt : Nat) (V : Int) (bit : Nat → Int) (hbit : ∀ k, k < cnt → bit k = V / 2 ^ k % 2) (hp : B ≤ p) :
    Takes 246 #[.pointer (some ⟨p, 0, none⟩)] bit cnt (OneI w0 B p V) := by
  intro k w hk ⟨hP, hB⟩
  rw [hbit k hk]
  refine (one1_any p _ (V / 2 ^ k % 2) w hP.cell hP.free).mono ?_
  rintro e w' ⟨rfl, rfl⟩
  have b := bit01 (V / 2 ^ k)
  have hm := Bt.mod_bit V k
  have h1 := Bt.mod_lo V k
  have hpk := Bt.p0 k
  refine ⟨rfl, ?_, hB.setCell hp _⟩
  have e : bits BinOp.or IntKind.i64 (if V % 2 ^ k = 0 then 0 else 1) (V / 2 ^ k % 2) = if V % 2 ^ (k + 1) = 0 then 0 else 1 := by
    rw [Bt.or01 _ _ (by split <;> omega) (by split <;> omega) b.1 b.2]
    rw [hm]
    rcases (show V / 2 ^ k % 2 = 0 ∨ V / 2 ^ k % 2 = 1 by omega) with h | h
    · rw [h]
      by_cases h0 : V % 2 ^ k = 0
      · simp [h0]
      · rw [if_neg h0, if_neg (by omega), if_neg (by omega)]
    · rw [h, if_neg (by omega), if_neg (by omega)]
  rw [e]
  exact hP.set
end Bc
namespace Bc
theorem passBits_int (f : Nat) (cap : Array Value) (A : Option Addr) (m c B a cnt : Nat) (ai ci : Int) (bs : List Int) (V : Int) (Inv : Nat → World → Prop) (w : World) (ha : ai = (a : Int)) (hci : ci = (cnt : Int)) (hm : m = bs.length) (hmx : m ≤ 1000000) (hbd : a + cnt ≤ 8 * m) (hB : Bt.InR 8 bs) (hV : V = Bt.ofD 8 bs / 2 ^ a)
    (hf : Goes f) (hr : ∀ k w, Inv k w → Wd.Rd w B .u8 A bs) (hs : ∀ bit, (∀ k, k < cnt → bit k = V / 2 ^ k % 2) → Takes f cap bit cnt Inv) (h0 : Inv 0 w) :
    Calls Tryz.prog 217 #[.slice A m c, .int .i64 ai, .int .i64 ci, .func (.func f) #[] cap] w fun e w' => e = .returned (.tuple #[]) ∧ Inv cnt w' := by
  subst ha hci
  refine passBits_any f cap A m c B a cnt bs Inv w hm hmx hbd hB hf hr (hs _ fun k hk => ?_) h0
  have hp := Bt.p0 a
  rw [getD_bit hB (a + k) (by rw [← hm]; omega), hV, Int.ediv_ediv_of_nonneg (by omega), Int.pow_add]
set_option maxHeartbeats 400000 in
theorem hasOne_any (A : Option Addr) (m c a : Nat) (bs : List Int) (w : World) (hS : Wd.Sl w .u8 A m c bs) (hB : Bt.InR 8 bs) (hm : m ≤ 1000000) (ha : a ≤ 8 * m) :
    Calls Tryz.prog 216 #[.slice A m c, .int .i64 a] w fun e w' => e = .returned (.bool (decide (Bt.ofD 8 bs / 2 ^ a ≠ 0))) ∧ Below w.heap.size w w' := by
  have hmf : ∀ (fn : Fn) (first cap : Array Value) (w : World), (Instr.makeFunc fn first cap).run Tryz.prog w = .ok (.func fn first cap) w := fun _ _ _ _ => rfl
  have hl := hS.len
  have hrd := hS.rd
  have hp := Bt.p0 a
  have hV0 : 0 ≤ Bt.ofD 8 bs / 2 ^ a := Int.ediv_nonneg (Bt.ofD_lo hB) (by omega)
  have hV1 : Bt.ofD 8 bs / 2 ^ a < 2 ^ (8 * m - a) := by
    refine Int.ediv_lt_of_lt_mul hp ?_
    rw [← Int.pow_add, show 8 * m - a + a = 8 * m by omega, hl]
    exact Bt.ofD_hi hB
  have hmod : Bt.ofD 8 bs / 2 ^ a % 2 ^ (8 * m - a) = Bt.ofD 8 bs / 2 ^ a := Int.emod_eq_of_lt hV0 hV1
  have Hl := Lib.hid hl
  have Hrd := Lib.hid hrd
  have Hmod := Lib.hid hmod
  clear hl hrd hS hmod hV0 hV1 hp
  have HB := Lib.hid hB
  clear hB
  generalize hVV : Bt.ofD 8 bs / 2 ^ a = V at *
  have HV := Lib.hid hVV
  clear hVV
  go_enter Tryz.func216, Tryz.ntmps216
  go_wp2_with fail
  refine (passBits_int _ _ A m c w.heap.size a (8 * m - a) _ _ bs V (OneI w w.heap.size w.heap.size V) _ rfl (by omega) Hl.out hm (by omega) HB.out HV.out.symm goes_one (fun k w' hI => Hrd.out.below hI.2) (fun bit hbit => one_takes w w.heap.size w.heap.size _ V bit hbit (Nat.le_refl _)) ?_).mono ?_
  · have h1 := Wd.Var.new w 3 (.int .i64 0)
    refine ⟨?_, (Below.refl _ _).alloc (Nat.le_refl _) _⟩
    have : (if V % 2 ^ 0 = 0 then (0 : Int) else 1) = 0 := by simp
    rw [this]; exact h1
  rintro e w1 ⟨rfl, hI⟩
  have c7 := hI.1.cell
  have hBl := hI.2
  rw [Hmod.out] at c7
  clear hI
  by_cases hV : V = 0
  · rw [if_pos hV] at c7
    have HV2 := Lib.hid hV
    clear hV
    go_wp2_with fail
    go_ret
    exact ⟨congrArg (fun b : Bool => Ending.returned (.bool b)) (decide_eq_false (by simpa using HV2.out)).symm, hBl⟩
  · rw [if_neg hV] at c7
    have HV2 := Lib.hid hV
    clear hV
    go_wp2_with fail
    go_ret
    exact ⟨congrArg (fun b : Bool => Ending.returned (.bool b)) (decide_eq_true HV2.out).symm, hBl⟩
end Bc
namespace Bc
theorem hasOne_no (A : Option Addr) (m c a : Nat) (ai : Int) (bs : List Int) (w : World) (hS : Wd.Sl w .u8 A m c bs) (hB : Bt.InR 8 bs) (hm : m ≤ 1000000) (ha : a ≤ 8 * m) (hai : ai = (a : Int)) (h : Bt.ofD 8 bs / 2 ^ a = 0) :
    Calls Tryz.prog 216 #[.slice A m c, .int .i64 ai] w fun e w' => e = .returned (.bool false) ∧ Below w.heap.size w w' := by
  subst hai
  have := hasOne_any A m c a bs w hS hB hm ha
  rwa [decide_eq_false (by simpa using h)] at this
theorem hasOne_yes (A : Option Addr) (m c a : Nat) (ai : Int) (bs : List Int) (w : World) (hS : Wd.Sl w .u8 A m c bs) (hB : Bt.InR 8 bs) (hm : m ≤ 1000000) (ha : a ≤ 8 * m) (hai : ai = (a : Int)) (h : Bt.ofD 8 bs / 2 ^ a ≠ 0) :
    Calls Tryz.prog 216 #[.slice A m c, .int .i64 ai] w fun e w' => e = .returned (.bool true) ∧ Below w.heap.size w w' := by
  subst hai
  have := hasOne_any A m c a bs w hS hB hm ha
  rwa [decide_eq_true h] at this
set_option maxHeartbeats 800000 in
theorem unpack_ok (A : Option Addr) (m c n wd : Nat) (bs : List Int) (w : World) (hS : Wd.Sl w .u8 A m c bs) (hB : Bt.InR 8 bs) (hm : m ≤ 1000000) (hwd : wd ≤ 62) (hn : n ≤ 4096) (hfit : m = (n * wd + 7) / 8) (hz : Bt.ofD 8 bs / 2 ^ (n * wd) = 0) :
    Calls Tryz.prog 182 #[.slice A m c, .int .i64 n, .int .i64 wd] w (Wd.Out2 w .i64 (Bt.toD wd n (Bt.ofD 8 bs)) 0) := by
  obtain ⟨i0, hi, hz0, hz1, hz2⟩ := info_parts info_int
  have hmf : ∀ (fn : Fn) (first cap : Array Value) (w : World), (Instr.makeFunc fn first cap).run Tryz.prog w = .ok (.func fn first cap) w := fun _ _ _ _ => rfl
  obtain ⟨p1, p2⟩ := prod_le n wd hn hwd
  have E2 := Lib.hid (mul_cast n wd)
  have hl := hS.len
  have Hl := Lib.hid hl
  have f1 : m ≤ (n * wd + 7) / 8 := by omega
  have f2 : (n * wd + 7) / 8 ≤ m := by omega
  have f3 : n * wd ≤ 8 * m := by omega
  have Hz := Lib.hid hz
  clear hl hfit hz
  go_enter Tryz.func182, Tryz.ntmps182
  go_wp2_with fail
  refine (isWidth_yes _ _ (by omega) (by omega)).mono ?_
  rintro e w' ⟨rfl, rfl⟩
  go_wp2_with fail
  refine (bytesFor_any n wd _ hn hwd).mono ?_
  rintro e w' ⟨rfl, rfl⟩
  go_wp2_with fail
  have hb1 : Below w.heap.size w (w.alloc (.cells #[.int .i64 wd] 3)) := (Below.refl _ _).alloc (Nat.le_refl _) _
  have hv1 := Wd.Var.new w 3 (.int .i64 wd)
  have hS1 := hS.below hb1
  refine (hasOne_no A m c (n * wd) _ bs _ hS1 hB hm f3 E2.out Hz.out).mono ?_
  rintro e w2 ⟨rfl, hb2⟩
  have hW2 : Below w.heap.size w w2 := hb1.trans (hb2.mono hb1.size)
  have hv2 : Wd.Var w2 w.heap.size 3 (.int .i64 wd) := by unfold Wd.Var; rw [hb2.block _ hv1.lt]; exact hv1
  have hlt2 := hv2.lt
  have c5 := hv2.cell
  have hrd := (hS.below hW2).rd
  clear hb1 hb2 hv1 hS1
  go_wp2_with (at_make; refine wpList_make_full _ rfl (.tmp 38) (.tmp 38) 25 rfl w2.heap.size 3 i0 _ 1 Tryz.underlying25 hi hz0 hz1 .i64 .i64 n n n rfl rfl rfl rfl (by rw [hz2]; omega) (by unfold maxLen; omega) (Nat.le_refl _) ?_; intro w3 hown hgrow; have hb3 := (Below.refl w2.heap.size w2).grown hgrow (Nat.le_refl _) (by simp); have c53 := (hb3.cell (p := ⟨w.heap.size, 0, none⟩) hlt2).trans c5; have hz3 := hb3.size; have hz4 : w.heap.size < w3.heap.size := (by omega); have hz5 : w.heap.size < w3.heap.size + 1 := (by omega))
  rw [Wd.made_zero] at hown
  have hR := (Wd.Row.of_own hown).1
  have hg3 := hR.lt
  have hv3 : Wd.Var w3 w.heap.size 3 (.int .i64 wd) := by unfold Wd.Var; rw [hb3.block _ hlt2]; exact hv2
  have hW3 : Below w.heap.size w w3 := hW2.trans (hb3.mono hW2.size)
  have Hr0 := Lib.hid (hS.rd)
  have hwsz := hW2.size
  clear hown hgrow hrd hS
  refine (passBits_int _ _ A m c w.heap.size 0 (n * wd) 0 (n * wd) bs (Bt.ofD 8 bs) (UnI w w.heap.size w2.heap.size w3.heap.size (w3.heap.size + 1) w.heap.size n wd (Bt.ofD 8 bs)) _ rfl E2.out Hl.out hm (by omega) hB (by simp) goes_unpack (fun k w' hI => Hr0.out.below hI.2.2.2.2)
    (fun bit hbit => un_takes w w.heap.size w2.heap.size w3.heap.size (w3.heap.size + 1) w.heap.size n wd _ _ bit hbit (by omega) hwd (by rw [Nat.mul_comm]; omega) (by omega) (by omega) (by omega) (by omega) (by omega) (by omega) (by omega)) ?_).mono ?_
  · refine ⟨?_, ?_, ?_, ?_, ?_⟩
    · rw [toD_zero]
      exact (hR.alloc _).alloc _
    · exact (Wd.Var.new _ _ _).alloc _
    · have := Wd.Var.new (w3.alloc (.cells #[.slice (some ⟨w2.heap.size, 0, none⟩) n n] 25)) 3 (.int .i64 0)
      simpa using this
    · exact (hv3.alloc _).alloc _
    · exact (hW3.alloc (by omega) _).alloc (by simp; omega) _
  rintro e w4 ⟨rfl, hI⟩
  have c9 := hI.2.1.cell
  have hBl := hI.2.2.2.2
  have hR4 := hI.1
  have hmod : Bt.ofD 8 bs % 2 ^ (n * wd) = Bt.ofD 8 bs := by
    have h1 := Int.emod_add_mul_ediv (Bt.ofD 8 bs) (2 ^ (n * wd))
    rw [Hz.out] at h1
    omega
  rw [hmod] at hR4
  clear hI hmod hv2 hv3 c5 c53 hR hb3 hW2 hW3 hlt2 hz3 hz4 hz5 hg3 hwsz
  go_wp2_with fail
  go_ret2
  exact ⟨_, n, n, rfl, hR4.sl n (by rw [Bt.toD_len]) (by unfold maxLen; omega), hBl⟩
set_option maxHeartbeats 400000 in
theorem unpack_arg (A : Option Addr) (m c : Nat) (n wd : Int) (w : World) (h : wd < 0 ∨ 62 < wd ∨ n < 0) :
    Calls Tryz.prog 182 #[.slice A m c, .int .i64 n, .int .i64 wd] w (Wd.Out2 w .i64 [] 1) := by
  have hb1 : Below w.heap.size w (w.alloc (.cells #[.int .i64 wd] 3)) := (Below.refl _ _).alloc (Nat.le_refl _) _
  by_cases hw : 0 ≤ wd ∧ wd ≤ 62
  · obtain ⟨w1, w2⟩ := hw
    have hn : n < 0 := by omega
    clear h
    go_enter Tryz.func182, Tryz.ntmps182
    go_wp2_with fail
    refine (isWidth_yes _ _ w1 w2).mono ?_
    rintro e w' ⟨rfl, rfl⟩
    go_wp2_with fail
    go_ret2
    exact Wd.Out2.err _ _ _ _ hb1
  · have hw' : wd < 0 ∨ 62 < wd := by omega
    have Hw := Lib.hid hw'
    clear hw hw' h
    go_enter Tryz.func182, Tryz.ntmps182
    go_wp2_with fail
    refine (isWidth_no _ _ Hw.out).mono ?_
    rintro e w' ⟨rfl, rfl⟩
    go_wp2_with fail
    go_ret2
    exact Wd.Out2.err _ _ _ _ hb1
theorem unpack_long (A : Option Addr) (m c : Nat) (n wd : Int) (w : World) (h1 : 0 ≤ wd) (h2 : wd ≤ 62) (h3 : 4096 < n) :
    Calls Tryz.prog 182 #[.slice A m c, .int .i64 n, .int .i64 wd] w (Wd.Out2 w .i64 [] 2) := by
  have hb1 : Below w.heap.size w (w.alloc (.cells #[.int .i64 wd] 3)) := (Below.refl _ _).alloc (Nat.le_refl _) _
  have h4 : 0 ≤ n := by omega
  go_enter Tryz.func182, Tryz.ntmps182
  go_wp2_with fail
  refine (isWidth_yes _ _ h1 h2).mono ?_
  rintro e w' ⟨rfl, rfl⟩
  go_wp2_with fail
  go_ret2
  exact Wd.Out2.err _ _ _ _ hb1
set_option maxHeartbeats 400000 in
theorem unpack_short (A : Option Addr) (m c n wd : Nat) (w : World) (hwd : wd ≤ 62) (hn : n ≤ 4096) (h : m < (n * wd + 7) / 8) :
    Calls Tryz.prog 182 #[.slice A m c, .int .i64 n, .int .i64 wd] w (Wd.Out2 w .i64 [] 6) := by
  have hb1 : Below w.heap.size w (w.alloc (.cells #[.int .i64 wd] 3)) := (Below.refl _ _).alloc (Nat.le_refl _) _
  obtain ⟨p1, p2⟩ := prod_le n wd hn hwd
  go_enter Tryz.func182, Tryz.ntmps182
  go_wp2_with fail
  refine (isWidth_yes _ _ (by omega) (by omega)).mono ?_
  rintro e w' ⟨rfl, rfl⟩
  go_wp2_with fail
  refine (bytesFor_any n wd _ hn hwd).mono ?_
  rintro e w' ⟨rfl, rfl⟩
  go_wp2_with fail
  go_ret2
  exact Wd.Out2.err _ _ _ _ hb1
set_option maxHeartbeats 400000 in
theorem unpack_much (A : Option Addr) (m c n wd : Nat) (w : World) (hwd : wd ≤ 62) (hn : n ≤ 4096) (h : (n * wd + 7) / 8 < m) :
    Calls Tryz.prog 182 #[.slice A m c, .int .i64 n, .int .i64 wd] w (Wd.Out2 w .i64 [] 7) := by
  have hb1 : Below w.heap.size w (w.alloc (.cells #[.int .i64 wd] 3)) := (Below.refl _ _).alloc (Nat.le_refl _) _
  obtain ⟨p1, p2⟩ := prod_le n wd hn hwd
  go_enter Tryz.func182, Tryz.ntmps182
  go_wp2_with fail
  refine (isWidth_yes _ _ (by omega) (by omega)).mono ?_
  rintro e w' ⟨rfl, rfl⟩
  go_wp2_with fail
  refine (bytesFor_any n wd _ hn hwd).mono ?_
  rintro e w' ⟨rfl, rfl⟩
  go_wp2_with fail
  go_ret2
  exact Wd.Out2.err _ _ _ _ hb1
set_option maxHeartbeats 400000 in
theorem unpack_pad (A : Option Addr) (m c n wd : Nat) (bs : List Int) (w : World) (hS : Wd.Sl w .u8 A m c bs) (hB : Bt.InR 8 bs) (hm : m ≤ 1000000) (hwd : wd ≤ 62) (hn : n ≤ 4096) (hfit : m = (n * wd + 7) / 8) (hz : Bt.ofD 8 bs / 2 ^ (n * wd) ≠ 0) :
    Calls Tryz.prog 182 #[.slice A m c, .int .i64 n, .int .i64 wd] w (Wd.Out2 w .i64 [] 7) := by
  obtain ⟨p1, p2⟩ := prod_le n wd hn hwd
  have E2 := Lib.hid (mul_cast n wd)
  have f1 : m ≤ (n * wd + 7) / 8 := by omega
  have f2 : (n * wd + 7) / 8 ≤ m := by omega
  have f3 : n * wd ≤ 8 * m := by omega
  have Hz := Lib.hid hz
  clear hfit hz
  go_enter Tryz.func182, Tryz.ntmps182
  go_wp2_with fail
  refine (isWidth_yes _ _ (by omega) (by omega)).mono ?_
  rintro e w' ⟨rfl, rfl⟩
  go_wp2_with fail
  refine (bytesFor_any n wd _ hn hwd).mono ?_
  rintro e w' ⟨rfl, rfl⟩
  go_wp2_with fail
  have hb1 : Below w.heap.size w (w.alloc (.cells #[.int .i64 wd] 3)) := (Below.refl _ _).alloc (Nat.le_refl _) _
  have hS1 := hS.below hb1
  refine (hasOne_yes A m c (n * wd) _ bs _ hS1 hB hm f3 E2.out Hz.out).mono ?_
  rintro e w2 ⟨rfl, hb2⟩
  have hW2 : Below w.heap.size w w2 := hb1.trans (hb2.mono hb1.size)
  clear hb1 hb2 hS1
  go_wp2_with fail
  go_ret2
  exact Wd.Out2.err _ _ _ _ hW2
theorem unpack_any (A : Option Addr) (m c : Nat) (n wd : Int) (bs : List Int) (w : World) (hS : Wd.Sl w .u8 A m c bs) (hB : Bt.InR 8 bs) (hm : m ≤ 1000000) :
    Calls Tryz.prog 182 #[.slice A m c, .int .i64 n, .int .i64 wd] w (Wd.Out2 w .i64 (unL bs n wd) (unE bs n wd)) := by
  have hl := hS.len
  by_cases h1 : wd < 0 ∨ 62 < wd ∨ n < 0
  · have e : unE bs n wd = 1 := if_pos h1
    rw [unL, e, if_neg (by omega)]
    exact unpack_arg A m c n wd w h1
  · by_cases h2 : 4096 < n
    · have e : unE bs n wd = 2 := by unfold unE; rw [if_neg h1, if_pos h2]
      rw [unL, e, if_neg (by omega)]
      exact unpack_long A m c n wd w (by omega) (by omega) h2
    · obtain ⟨N, rfl⟩ := Int.eq_ofNat_of_zero_le (show 0 ≤ n by omega)
      obtain ⟨W, rfl⟩ := Int.eq_ofNat_of_zero_le (show 0 ≤ wd by omega)
      by_cases h3 : bs.length < (N * W + 7) / 8
      · have e : unE bs N W = 6 := by unfold unE; rw [if_neg h1, if_neg h2]; exact if_pos h3
        rw [unL, e, if_neg (by omega)]
        exact unpack_short A m c N W w (by omega) (by omega) (by omega)
      · by_cases h4 : (N * W + 7) / 8 < bs.length
        · have e : unE bs N W = 7 := by unfold unE; rw [if_neg h1, if_neg h2, if_neg (show ¬ bs.length < ((N : Int).toNat * (W : Int).toNat + 7) / 8 from h3)]; exact if_pos (.inl h4)
          rw [unL, e, if_neg (by omega)]
          exact unpack_much A m c N W w (by omega) (by omega) (by omega)
        · by_cases h5 : Bt.ofD 8 bs / 2 ^ (N * W) = 0
          · have e : unE bs N W = 0 := by
              unfold unE
              rw [if_neg h1, if_neg h2, if_neg (show ¬ bs.length < ((N : Int).toNat * (W : Int).toNat + 7) / 8 from h3)]
              refine if_neg ?_
              rintro (q | q)
              · exact h4 q
              · exact q h5
            rw [unL, e, if_pos rfl]
            exact unpack_ok A m c N W bs w hS hB hm (by omega) (by omega) (by omega) h5
          · have e : unE bs N W = 7 := by unfold unE; rw [if_neg h1, if_neg h2, if_neg (show ¬ bs.length < ((N : Int).toNat * (W : Int).toNat + 7) / 8 from h3)]; exact if_pos (.inr h5)
            rw [unL, e, if_neg (by omega)]
            exact unpack_pad A m c N W bs w hS hB hm (by omega) (by omega) (by omega) h5
end Bc
end Go.Proofs.YtaoeipehpakngaaGreatDoor
namespace Go.Proofs.YtaoeipehpakngaaGreatDoor
set_option maxRecDepth 20000
namespace Bs
def bitAt (L : List Nat) (i : Nat) : Bool := (L.getD (i / 64) 0).testBit (i % 64)
def lstW (L : List Nat) : List Int := ((List.range (64 * L.length)).filter (bitAt L)).map fun (k : Nat) => (k : Int)
theorem bitAt_out {L : List Nat} {i : Nat} (h : 64 * L.length ≤ i) : bitAt L i = false := by
  unfold bitAt
  rw [List.getD_eq_getElem?_getD, List.getElem?_eq_none (by omega)]
  simp
theorem mem_lstW (L : List Nat) (x : Int) : x ∈ lstW L ↔ 0 ≤ x ∧ bitAt L x.toNat = true := by
  unfold lstW
  rw [List.mem_map]
  constructor
  · rintro ⟨k, hk, rfl⟩
    rw [List.mem_filter] at hk
    exact ⟨by omega, by simpa using hk.2⟩
  · rintro ⟨h0, h1⟩
    refine ⟨x.toNat, ?_, by omega⟩
    rw [List.mem_filter, List.mem_range]
    refine ⟨?_, h1⟩
    by_cases q : x.toNat < 64 * L.length
    · exact q
    · rw [bitAt_out (by omega)] at h1
      cases h1
theorem lstW_ok {L : List Nat} (h : L.length ≤ 1024) : Ok (lstW L) := by
  refine ⟨?_, fun x hx => ?_⟩
  · unfold lstW
    rw [List.pairwise_map]
    exact List.Pairwise.imp (fun {a b} q => by omega) (List.Pairwise.filter _ List.pairwise_lt_range)
  · obtain ⟨h0, h1⟩ := (mem_lstW L x).1 hx
    have : x.toNat < 64 * L.length := by
      by_cases q : x.toNat < 64 * L.length
      · exact q
      · rw [bitAt_out (by omega)] at h1
        cases h1
    exact ⟨h0, by omega⟩
theorem lstW_nil : lstW [] = [] := rfl
section
variable {L M N : List Nat}
theorem lst_with {i : Nat} (hL : L.length ≤ 1024) (hM : M.length ≤ 1024) (hi : i < 65536) (h : ∀ n, bitAt M n = (bitAt L n || decide (n = i))) : lstW M = withL (lstW L) (i : Int) :=
  ok_ext (lstW_ok hM) (with_ok (lstW_ok hL) _) fun x => by
    rw [mem_with, mem_lstW, mem_lstW, h, Bool.or_eq_true, decide_eq_true_eq]
    constructor
    · rintro ⟨h0, q | q⟩
      · exact .inl ⟨h0, q⟩
      · exact .inr ⟨by omega, by omega, by omega⟩
    · rintro (⟨h0, q⟩ | ⟨q, _⟩)
      · exact ⟨h0, .inl q⟩
      · exact ⟨by omega, .inr (by omega)⟩
theorem lst_upto {k : Int} (hM : M.length ≤ 1024) (h : ∀ n, bitAt M n = decide (n < cut k)) : lstW M = uptoL k :=
  ok_ext (lstW_ok hM) (upto_ok k) fun x => by
    rw [mem_upto, mem_lstW, h, decide_eq_true_eq]
    unfold cut
    omega
theorem getD_set (L : List Nat) (k n v : Nat) (hk : k < L.length) : (L.set k v).getD n 0 = if n = k then v else L.getD n 0 := by
  rw [List.getD_eq_getElem?_getD, List.getElem?_set, List.getD_eq_getElem?_getD]
  by_cases e : k = n
  · rw [if_pos e, if_pos e.symm, if_pos hk]
    rfl
  · rw [if_neg e, if_neg fun q => e q.symm]
theorem bit_or {k j : Nat} (hk : k < L.length) (hj : j < 64) (n : Nat) : bitAt (L.set k (L.getD k 0 ||| 2 ^ j)) n = (bitAt L n || decide (n = 64 * k + j)) := by
  unfold bitAt
  rw [getD_set L k _ _ hk]
  by_cases e : n / 64 = k
  · rw [if_pos e, Nat.testBit_or, Nat.testBit_two_pow, e]
    congr 1
    exact decide_eq_decide.2 (by omega)
  · rw [if_neg e, decide_eq_false (by omega), Bool.or_false]
theorem lst_same (hL : L.length ≤ 1024) (hM : M.length ≤ 1024) (h1 : ∀ k, L.getD k 0 < 18446744073709551616) (h2 : ∀ k, M.getD k 0 < 18446744073709551616) : lstW L = lstW M ↔ ∀ k, L.getD k 0 = M.getD k 0 := by
  constructor
  · intro e k
    refine Nat.eq_of_testBit_eq fun j => ?_
    by_cases hj : j < 64
    · have ha : bitAt L (64 * k + j) = (L.getD k 0).testBit j := by unfold bitAt; rw [show (64 * k + j) / 64 = k by omega, show (64 * k + j) % 64 = j by omega]
      have hb : bitAt M (64 * k + j) = (M.getD k 0).testBit j := by unfold bitAt; rw [show (64 * k + j) / 64 = k by omega, show (64 * k + j) % 64 = j by omega]
      rw [← ha, ← hb, Bool.eq_iff_iff]
      have ml := mem_lstW L ((64 * k + j : Nat) : Int)
      have mm := mem_lstW M ((64 * k + j : Nat) : Int)
      rw [Int.toNat_natCast] at ml mm
      rw [e] at ml
      exact ⟨fun q => (mm.1 (ml.2 ⟨by omega, q⟩)).2, fun q => (ml.1 (mm.2 ⟨by omega, q⟩)).2⟩
    · have hp : 2 ^ 64 ≤ 2 ^ j := Nat.pow_le_pow_right (by omega) (by omega)
      rw [Nat.testBit_lt_two_pow (Nat.lt_of_lt_of_le (h1 k) hp), Nat.testBit_lt_two_pow (Nat.lt_of_lt_of_le (h2 k) hp)]
  · intro e
    refine ok_ext (lstW_ok hL) (lstW_ok hM) fun x => ?_
    rw [mem_lstW, mem_lstW]
    unfold bitAt
    rw [e]
end
end Bs
end Go.Proofs.YtaoeipehpakngaaGreatDoor
