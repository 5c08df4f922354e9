/- The walk of the statement FrameSums of layer 4. -/
import Derived.Test.YtahocgmaeokoaaaFrAwake
import Derived.Deep.RegionWith
import Derived.BigRegion
import Derived.Test.YtahocgmaeokoaaaNumRead
namespace Go.Proofs.Ytahocgmaeokoaaa
open Go.RowKit
namespace Lw
open Fc Nc

theorem i64_xor_nat (a b : Nat) (ha : a < 4294967296) (hb : b < 4294967296) : bits .xor .i64 (a : Int) (b : Int) = ((a ^^^ b : Nat) : Int) := by
  have hx : a ^^^ b < 4294967296 := Fr.xor_lt (n := 32) ha hb
  show IntKind.i64.wrap ((BitVec.ofInt 64 (a : Int) ^^^ BitVec.ofInt 64 (b : Int)).toNat : Int) = _
  rw [BitVec.ofInt_natCast, BitVec.ofInt_natCast, BitVec.toNat_xor, BitVec.toNat_ofNat, BitVec.toNat_ofNat, Nat.mod_eq_of_lt (by omega), Nat.mod_eq_of_lt (by omega), IntKind.wrap_i64]
  omega
/-- Two lists of bytes, place by place. -/
def xorL (a b : List Int) : List Int := a.mapIdx fun j x => ((x.toNat ^^^ (b.getD j 0).toNat : Nat) : Int)
theorem xorL_len (a b : List Int) : (xorL a b).length = a.length := by simp [xorL]
theorem xorL_get (a b : List Int) (j : Nat) (hj : j < a.length) : (xorL a b).getD j 0 = (((a.getD j 0).toNat ^^^ (b.getD j 0).toNat : Nat) : Int) := by simp [xorL, List.getD, hj]
theorem xorL_byt (a b : List Int) (h : Nm.Byt a) (h' : Nm.Byt b) (hl : a.length = b.length) : Nm.Byt (xorL a b) := by
  intro x hx
  obtain ⟨j, hj, rfl⟩ := List.getElem_of_mem hx
  rw [xorL_len] at hj
  have e := xorL_get a b j hj
  have e2 : (xorL a b)[j] = (xorL a b).getD j 0 := by simp [List.getD, xorL_len, hj]
  rw [e2, e]
  have b1 := byt_get h j hj
  have b2 := byt_get h' j (by omega)
  have : (a.getD j 0).toNat ^^^ (b.getD j 0).toNat < 2 ^ 8 := Fr.xor_lt (by omega) (by omega)
  omega
theorem sums_zero (a b : List Int) (ha : Nm.Byt a) (hb : Nm.Byt b) (hl : a.length = b.length) : ((Fr.sum a ^^^ Fr.sum b) ^^^ Fr.sum (xorL a b)) ^^^ Fr.sum (List.replicate a.length 0) = 0 := by
  have hz : Nm.Byt (List.replicate a.length 0) := fun x hx => by rw [List.eq_of_mem_replicate hx]; omega
  rw [Fr.sum_xor a ha, Fr.sum_xor b hb, Fr.sum_xor _ (xorL_byt a b ha hb hl), Fr.sum_xor _ hz]
  have h1 := Fr.reg_xor a b (xorL a b) 4294967295 4294967295 hl (xorL_len a b) fun j hj => by rw [xorL_get a b j hj]; rfl
  have h2 := Fr.reg_xor (xorL a b) (List.replicate a.length 0) (xorL a b) 4294967295 4294967295 (by rw [xorL_len]; simp) rfl fun j hj => by
    rw [xorL_len] at hj
    rw [show (List.replicate a.length (0 : Int)).getD j 0 = 0 by simp [List.getD, hj]]
    simp
  rw [Fr.xor4 (Fr.reg 4294967295 a), Nat.xor_self, Nat.xor_zero, ← h1, Nat.xor_assoc, Fr.xor4 (Fr.reg 4294967295 (xorL a b)), Nat.xor_self, Nat.xor_zero, ← h2, Nat.xor_self, Nat.xor_self]

theorem below_grown {w w' : World} (h : w.grownBy w' none) : Below w.heap.size w w' := (Below.refl _ _).grown h (Nat.le_refl _) (by simp)

theorem nextB {a x y : World} (h : Below a.heap.size a x) (k : Below x.heap.size x y) : Below a.heap.size a y := h.trans (k.mono h.size)

set_option maxRecDepth 100000 in
set_option maxHeartbeats 2000000 in
theorem sums_ok (A B : Option Addr) (n m c d : Nat) (a b : List Int) (w : World) (hA : Wd.Sl w .u8 A n c a) (hB : Wd.Sl w .u8 B m d b) (ba : Nm.Byt a) (bb : Nm.Byt b) (hn : n ≤ 600) (hnm : n = m) :
    Calls Try.prog 7 #[.slice A n c, .slice B m d] w fun e w' => e = .returned (.bool true) ∧ Below w.heap.size w w' := by
  subst hnm
  obtain ⟨i0, hi, hz0, hz1, hz2⟩ := info_parts info_u8
  have hla := hA.len
  have hlb := hB.len
  have hz := sums_zero a b ba bb (by omega)
  rw [← hla] at hz
  have l1 := Fr.sum_lt a
  have l2 := Fr.sum_lt b
  have l3 := Fr.sum_lt (xorL a b)
  have l4 := Fr.sum_lt (List.replicate n 0)
  have x1 := i64_xor_nat _ _ l1 l2
  have l5 := Fr.xor_lt l1 l2
  have x2 := i64_xor_nat _ _ l5 l3
  have l6 := Fr.xor_lt l5 l3
  have x3 := i64_xor_nat _ _ l6 l4
  rw [hz] at x3
  have bz : Nm.Byt (List.replicate n 0) := fun x hx => by rw [List.eq_of_mem_replicate hx]; omega
  have bx := xorL_byt a b ba bb (by omega)
  have hxl : (xorL a b).length = n := by rw [xorL_len, ← hla]
  have Ca := Lib.hid fun w' hb => Sum_any A n c a w' (hA.below hb) ba
  have Cb := Lib.hid fun w' hb => Sum_any B n d b w' (hB.below hb) bb
  have Cc := Lib.hid fun E e w' hS => Sum_any E n e (xorL a b) w' hS bx
  have Cz := Lib.hid fun E w' hS => Sum_any E n n (List.replicate n 0) w' hS bz
  generalize Fr.sum a = s1 at *
  generalize Fr.sum b = s2 at *
  generalize Fr.sum (xorL a b) = s3 at *
  generalize Fr.sum (List.replicate n 0) = s4 at *
  generalize hq1 : s1 ^^^ s2 = s12 at *
  generalize hq2 : s12 ^^^ s3 = s123 at *
  have hne : ((n : Int) != (n : Int)) = false := by simp
  have Hla := Lib.hid hla
  have Hlb := Lib.hid hlb
  have Hxl := Lib.hid hxl
  have Hba := Lib.hid ba
  have Hbb := Lib.hid bb
  have HA := Lib.hid hA
  have HB := Lib.hid hB
  have hc1 := hA.cap
  have hd1 := hB.cap
  have hc2 := hA.max
  have hd2 := hB.max
  unfold maxLen at hc2 hd2
  clear hq1 hq2 hla hlb hz bz bx hxl ba bb hA hB
  go_enter Try.func7, Try.ntmps7
  go_wp2_with fail
  refine (awake_any w).mono ?_
  rintro e w1 ⟨rfl, hb1⟩
  go_wp2_with (at_make; refine wpList_make_full _ rfl (.tmp 25) (.tmp 25) 22 rfl w1.heap.size 5 i0 _ 1 Try.underlying22 hi hz0 hz1 .i64 .i64 n n n rfl rfl rfl rfl (by rw [hz2]; omega) (by unfold maxLen; omega) (Nat.le_refl _) ?_; intro w3 hown hgrow)
  have hW3 : Below w1.heap.size w1 w3 := (Below.refl _ _).grown hgrow (Nat.le_refl _) (by simp)
  rw [Wd.made_zero] at hown
  have hR0 : Wd.Row w3 w1.heap.size .u8 5 (Wd.fill (xorL a b) 0) := by rw [Wd.fill_zero, Hxl.out]; exact (Wd.Row.of_own hown).1
  clear hown hgrow
  go_loopw [7] (fun i wr => ∃ k : Nat, i = .int .i64 (k : Int) ∧ k ≤ n ∧ Wd.Row wr w1.heap.size .u8 5 (Wd.fill (xorL a b) k) ∧ Below w1.heap.size w1 wr) (fun i _ => n - (intOf i).toNat)
  case atStart => exact ⟨0, rfl, Nat.zero_le _, hR0, hW3⟩
  case round =>
    clear hR0 hW3
    obtain ⟨k, rfl, hk, hR, hb⟩ := hrel
    have hbw : Below w.heap.size w wr := hb1.trans (hb.mono hb1.size)
    by_cases hlt : k < n
    · have hka : k < a.length := by rw [← Hla.out]; exact hlt
      have hkb : k < b.length := by rw [← Hlb.out]; exact hlt
      obtain ⟨p1, o1, rfl, hp1, c1⟩ := (HA.out.below hbw).rd k hka
      obtain ⟨p2, o2, rfl, hp2, c2⟩ := (HB.out.below hbw).rd k hkb
      have y1 := byt_get Hba.out k hka
      have y2 := byt_get Hbb.out k hkb
      have hst := Wd.fill_set (xorL a b) k (by rw [Hxl.out]; exact hlt)
      rw [xorL_get a b k hka] at hst
      have hxr := u8_xor (a.getD k 0) (b.getD k 0) y1.1 (by omega) y2.1 (by omega)
      rw [← hxr] at hst
      have cR := hR.cell k (by rw [Wd.fill_len, Hxl.out]; exact hlt)
      have fR := hR.free k
      generalize a.getD k 0 = x at *
      generalize b.getD k 0 = y at *
      have Hst := Lib.hid hst
      have i1 : (k : Int) < (n : Int) := by omega
      have i2 : (0 : Int) ≤ (k : Int) := by omega
      obtain ⟨wo, rfl⟩ : ∃ wo : World, wo = wr := ⟨_, rfl⟩
      clear hst hxr y1 y2 hka hkb hbw
      go_upto_region 8 with fail
      go_region
      all_goals
        go_wp2_with fail
        go_roundw
        case rel =>
          refine ⟨k + 1, by go_num, by omega, ?_, (hb.setCell (p := ⟨w1.heap.size, k, none⟩) (Nat.le_refl _) _).drew⟩
          rw [← Hst.out]
          exact (hR.set k _).drew
        case measure => simp [intOf]; omega
    · have hRn : Wd.Row wr w1.heap.size .u8 5 (xorL a b) := by
        have : Wd.Row wr w1.heap.size .u8 5 (Wd.fill (xorL a b) (xorL a b).length) := by
          rw [Hxl.out, show n = k by omega]; exact hR
        rw [Wd.fill_all] at this
        exact this
      have hSc : Wd.Sl wr .u8 (some ⟨w1.heap.size, 0, none⟩) n n (xorL a b) := hRn.sl n Hxl.out.symm (by unfold maxLen; omega)
      have hkI : ¬ (k : Int) < (n : Int) := by omega
      have hs0 : ((0 : Nat) : Int) = 0 := rfl
      clear hR hRn
      obtain ⟨wo, rfl⟩ : ∃ wo : World, wo = wr := ⟨_, rfl⟩
      have hb0 : Below wo.heap.size wo wo.drew := (Below.refl _ _).drew
      have hzI : ((0 : Int) == 0) = true := rfl
      go_upto_region 9 with fail
      go_cut [4] (fun s wx => s = .bool true ∧ Below w.heap.size w wx)
      case first =>
        have hbwo : Below w.heap.size w wo := nextB hb1 hb
        have Ca' := Lib.hid fun w' (h : Below wo.heap.size wo w') => Ca.out w' (nextB hbwo h)
        have Cb' := Lib.hid fun w' (h : Below wo.heap.size wo w') => Cb.out w' (nextB hbwo h)
        have Cc' := Lib.hid fun w' (h : Below wo.heap.size wo w') => Cc.out _ _ w' (hSc.below h)
        obtain ⟨zc, hzc⟩ : ∃ zc : Array Value, zc = ((List.replicate n (0 : Int)).map (Value.int .u8)).toArray := ⟨_, rfl⟩
        have hmk : ∀ X : World, (Instr.makeSlice 22 (.int .i64 (n : Int)) (.int .i64 (n : Int))).run Try.prog X = .ok (.slice (some ⟨X.heap.size, 0, none⟩) n n) (X.alloc (.cells zc 5)) := fun X => by
          have := run_make (P := Try.prog) X 22 5 i0 _ Try.underlying22 hi hz0 .i64 .i64 (n : Int) (n : Int) (by omega) (by omega) (by rw [hz2]; omega) (by omega)
          rw [this, hzc, hz1, Int.toNat_natCast, ← Wd.made_zero]
        have litz := fun X : World => Wd.Sl.lit X .u8 (List.replicate n (0 : Int)) 5 zc n hzc (by simp) (by unfold maxLen; omega)
        have litd := fun X : World => (litz X).below ((Below.refl _ _).drew)
        have hb' := hb0
        have hbd : Below wo.heap.size wo (wo.alloc (.cells zc 5)).drew := ((Below.refl _ _).alloc (Nat.le_refl _) _).drew
        clear hzc Ca Cb Cc
        go_region_held3 (fun _ => True) (exact trivial) (first | (go_at_call 12; (with_reducible refine (Ca'.out _ (by first | exact hb' | exact hb'.alloc hb'.size _ | exact hbd)).mono ?_); rintro e w5 ⟨rfl, hb5⟩; (first | have hz' := hz'.below hb5 | have hz' := (litz _).below hb5 | have hz' := (litd _).below hb5 | skip); have hb' := (by first | exact nextB hb' hb5 | exact nextB (hb'.alloc hb'.size _) hb5 | exact nextB hbd hb5 : Below wo.heap.size wo w5)) | (go_at_call 12; (with_reducible refine (Cb'.out _ (by first | exact hb' | exact hb'.alloc hb'.size _ | exact hbd)).mono ?_); rintro e w5 ⟨rfl, hb5⟩; (first | have hz' := hz'.below hb5 | have hz' := (litz _).below hb5 | have hz' := (litd _).below hb5 | skip); have hb' := (by first | exact nextB hb' hb5 | exact nextB (hb'.alloc hb'.size _) hb5 | exact nextB hbd hb5 : Below wo.heap.size wo w5)) | (go_at_call 12; (with_reducible refine (Cc'.out _ (by first | exact hb' | exact hb'.alloc hb'.size _ | exact hbd)).mono ?_); rintro e w5 ⟨rfl, hb5⟩; (first | have hz' := hz'.below hb5 | have hz' := (litz _).below hb5 | have hz' := (litd _).below hb5 | skip); have hb' := (by first | exact nextB hb' hb5 | exact nextB (hb'.alloc hb'.size _) hb5 | exact nextB hbd hb5 : Below wo.heap.size wo w5)) | (go_at_call 12; (with_reducible refine (Cz.out _ _ (by first | exact hz' | exact litz _ | exact litd _)).mono ?_); rintro e w5 ⟨rfl, hb5⟩; (first | have hz' := hz'.below hb5 | have hz' := (litz _).below hb5 | have hz' := (litd _).below hb5 | skip); have hb' := (by first | exact nextB hb' hb5 | exact nextB (hb'.alloc hb'.size _) hb5 | exact nextB hbd hb5 : Below wo.heap.size wo w5)))
        all_goals (go_wp2_with fail; go_meet; exact ⟨by simp, nextB hbwo hb'⟩)
      case rest =>
        obtain ⟨rfl, hbx⟩ := hcut
        go_wp2_with fail
        go_ret
        exact ⟨rfl, hbx⟩

set_option maxRecDepth 100000 in
set_option maxHeartbeats 1000000 in
theorem frameSums_any (A : Option Addr) (n c : Nat) (a : List Int) (B : Option Addr) (m d : Nat) (b : List Int) (w : World) (hA : Wd.Sl w .u8 A n c a) (fA : Wd.Fits .u8 a) (hB : Wd.Sl w .u8 B m d b) (fB : Wd.Fits .u8 b) :
    Calls Try.prog 7 #[.slice A n c, .slice B m d] w fun e w' => e = .returned (.bool true) ∧ Below w.heap.size w w' := by
  rcases Nat.lt_or_ge 600 n with h | h
  · have h' : (600 : Int) < (n : Int) := by omega
    clear hA hB fA fB
    go_enter Try.func7, Try.ntmps7
    go_wp2_with fail
    refine (awake_any w).mono ?_
    rintro e w1 ⟨rfl, hb1⟩
    go_wp2_with fail
    go_ret
    exact ⟨rfl, hb1⟩
  · by_cases q : n = m
    · exact sums_ok A B n m c d a b w hA hB (byt_of fA) (byt_of fB) h q
    · have hne : ((n : Int) != (m : Int)) = true := by rw [bne_iff_ne]; omega
      clear hA hB fA fB
      go_enter Try.func7, Try.ntmps7
      go_wp2_with fail
      refine (awake_any w).mono ?_
      rintro e w1 ⟨rfl, hb1⟩
      go_wp2_with fail
      go_ret
      exact ⟨rfl, hb1⟩
end Lw
end Go.Proofs.Ytahocgmaeokoaaa
