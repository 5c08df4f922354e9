/- slices.symMergeCmpFunc of a row of numbers, where the second side has one number alone. slices.swapRangeCmpFunc of a row of numbers: two stretches of one length change places. slices.rotateCmpFunc of a row of numbers: two neighbouring stretches change places. -/
import Derived.WalkKit
import Derived.Shelf.SlSortCmp.QuietGrown
import Derived.Shelf.RegionOpen
import Derived.Sort.WalkA
import Derived.Sort.WalkB2
import Derived.Sort.WalkB12
import Derived.Deep.LoopGhost
import Derived.Lib.Hide
import Derived.BigRegion
import Derived.Test.YtoibpbnebcoafaaGreatPk16
import Derived.Test.YtoibpbnebcoafaaGreatProg
import Derived.Test.YtoibpbnebcoafaaGreatPk15
namespace Go.Proofs.YtoibpbnebcoafaaGreat
set_option maxRecDepth 20000
open Go.RowKit Go.Sort
namespace Ssm
set_option maxHeartbeats 8000000 in
theorem sym_last {f : Nat} {cap : Array Value} {cf : Nat → Nat → Int} (W : Wk cf) {g N : Nat} {w0 : World} (C : Cmp f cap cf g N w0) (P L S : List Nat) (e : Nat) (a m b n c : Nat) (w : World) (ha : a = P.length) (hmm : m = a + L.length) (hb : b = m + 1) (h2 : 2 ≤ L.length)
    (hL : So cf L) (hi : ∀ y ∈ L, y ≤ e) (hn : n = (P ++ (L ++ e :: S)).length) (hm : n ≤ 1000000000) (h : Sw w0 g N (P ++ (L ++ e :: S)) w) :
    Calls Tryz.prog 110 #[.slice (some ⟨g, 0, none⟩) n c, .int .i64 (a : Int), .int .i64 (m : Int), .int .i64 (b : Int), .func (.func f) #[] cap] w fun e' w' => e' = .returned (.tuple #[]) ∧ Sw w0 g N (P ++ (srt cf (L ++ [e]) ++ S)) w' := by
  have mixed := mixed
  have eg := C.goes
  have HC := Lib.hid C
  have hbn : b ≤ n := by simp only [List.length_append, List.length_cons] at hn; omega
  have am : ((m : Int) - (a : Int) == 1) = false := by simp; omega
  have bm : (b : Int) - (m : Int) = 1 := by omega
  obtain ⟨t, ht0, ht, hcut⟩ := cut_at (fun q => decide (¬ cf e (L.getD (q - a) 0) < 0)) a m (by omega) (fun c d h1 h2 h3 h4 => by
    simp only [decide_eq_true_eq] at *
    exact one_behind_anti W hL (by omega) (by omega) h4)
  have hEnd : P ++ (srt cf (L ++ [e]) ++ S) = wy P e L S (t - a) := by
    rw [one_behind W hL hi (t := t - a) (fun q hq => by
      have := hcut (q + a) (by omega) (by omega)
      simp only [decide_eq_true_eq, Nat.add_sub_cancel] at this
      omega)]
    simp [wy]
  rw [hEnd]
  obtain ⟨X, hX⟩ : ∃ X, X = P ++ (L ++ e :: S) := ⟨_, rfl⟩
  have hX0 : X = wy P e L S (m - a) := by
    rw [hX, wy, List.take_of_length_le (by omega), List.drop_of_length_le (by omega), List.nil_append]
  have xe : X.getD m 0 = e := by
    have q : P ++ (L ++ e :: S) = (P ++ L) ++ e :: S := by simp
    rw [hX, q, show m = (P ++ L).length by rw [List.length_append]; omega]
    exact getD_at _ _ _
  have xr : ∀ q, a ≤ q → q < m → X.getD q 0 = L.getD (q - a) 0 := fun q h1 h2 => by
    have := getD_mid (X := P) (L := L) (Y := e :: S) (i := q - a) (by omega)
    rw [hX, ← this]
    congr 1
    omega
  rw [← hX] at h hn
  have Hcut := Lib.hid (fun q (h1 : a ≤ q) (h2 : q < m) => by
    have := hcut q h1 h2
    simp only [decide_eq_true_eq] at this
    rw [← xr q h1 h2] at this
    exact this)
  have Hxe := Lib.hid xe
  have Hn := Lib.hid hn
  have HX0 := Lib.hid hX0
  have Hw := Lib.hid (fun q (hq : q < m - a) => ha ▸ wy_next P e L S (q := q) (by omega))
  have Hwl := Lib.hid (fun q => show (wy P e L S q).length = n by rw [wy_len, hn, hX0, wy_len])
  have H0 := Lib.hid h
  have amb : a < m ∧ m < b ∧ b ≤ m + 1 ∧ a + 2 ≤ m := by omega
  clear hcut C h ha hmm hb hn hX hX0 xe xr hEnd h2
  go_enter Tryz.func110, Tryz.ntmps110
  go_wp2_with fail
  go_loopw [14, 15] (fun vi vj wr => ∃ (i j : Nat), vi = .int .i64 i ∧ vj = .int .i64 j ∧ a ≤ i ∧ i ≤ t ∧ t ≤ j ∧ j ≤ m ∧ Hid (Sw w0 g N X wr)) (fun vi vj _ => (intOf vj - intOf vi).toNat)
  case atStart => exact ⟨a, m, rfl, rfl, Nat.le_refl _, ht0, ht, Nat.le_refl _, H0⟩
  case round =>
    obtain ⟨i, j, rfl, rfl, h1, h2, h3, h4, HS⟩ := hrel
    by_cases hlt : i < j
    · have hI : (i : Int) < (j : Int) := by omega
      obtain ⟨hN, hhN⟩ : ∃ q, q = (i + j) / 2 := ⟨_, rfl⟩
      have zh : i ≤ hN ∧ hN < j := by omega
      have eh : (((i : Int) + (j : Int)) / 2).toNat = hN := by omega
      have ph : (0 : Int) ≤ ((i : Int) + (j : Int)) / 2 := by omega
      have bh : ((i : Int) + (j : Int)) / 2 < (n : Int) := by omega
      have an : (m : Int) < (n : Int) := by omega
      have l1 := HS.out.cells hN (by have := Hn.out; omega)
      have l2 := HS.out.cells m (by have := Hn.out; omega)
      have b1 := HS.out.bd hN (by have := Hn.out; omega)
      have b2 := HS.out.bd m (by have := Hn.out; omega)
      have hc0 := Hcut.out hN (by omega) (by omega)
      rw [Hxe.out] at l2 b2
      generalize X.getD hN 0 = y at *
      have hc := HS.out.cmp HC.out b2 b1
      have Hh := Lib.hid hhN
      clear hhN
      by_cases hv : cf e y < 0
      · have hdv : decide (cf e y < 0) = true := decide_eq_true hv
        have hht : t ≤ hN := by omega
        clear hc0
        go_wp2_with fail
        go_quiet_grown (first | (go_at_fn f; refine Calls.grown_of (hc _ _)))
        have S2 := Lib.hid (HS.out.grown nq osq)
        clear l1 l2 hc HS eh
        generalize grow (wr.drewN nq) osq = w2 at S2 ⊢
        clear nq osq
        go_wp2_with fail
        go_roundw
        case rel => exact ⟨i, hN, rfl, by congr 1; have := Hh.out; omega, h1, h2, hht, by omega, S2⟩
        case measure => simp [intOf]; omega
      · have hdv : decide (cf e y < 0) = false := decide_eq_false hv
        have hht : hN < t := by omega
        clear hc0
        go_wp2_with fail
        go_quiet_grown (first | (go_at_fn f; refine Calls.grown_of (hc _ _)))
        have S2 := Lib.hid (HS.out.grown nq osq)
        clear l1 l2 hc HS eh
        generalize grow (wr.drewN nq) osq = w2 at S2 ⊢
        clear nq osq
        go_wp2_with fail
        go_roundw
        case rel => exact ⟨hN + 1, j, by congr 1; have := Hh.out; omega, rfl, by omega, by omega, h3, h4, S2⟩
        case measure => simp [intOf]; omega
    · have hI : ¬ (i : Int) < (j : Int) := by omega
      obtain rfl : t = i := by omega
      have S0 : Hid (Sw w0 g N (wy P e L S (m - a)) wr) := by have := HS.out; rw [HX0.out] at this; exact Lib.hid this
      clear HS Hcut Hxe
      go_wp2_with fail
      obtain ⟨w9, rfl⟩ : ∃ w9 : World, w9 = wr := ⟨_, rfl⟩
      go_loopw [17] (fun vk wr => ∃ (k : Nat), vk = .int .i64 (k : Int) ∧ t ≤ k ∧ k ≤ m ∧ Hid (Sw w0 g N (wy P e L S (k - a)) wr)) (fun vk _ => (intOf vk).toNat)
      case atStart => exact ⟨m, rfl, ht, Nat.le_refl _, S0⟩
      case round =>
        obtain ⟨k, rfl, hk1, hk2, HS⟩ := hrel
        by_cases hlq : t < k
        · obtain ⟨kp, hkp⟩ : ∃ z, z + 1 = k := ⟨k - 1, by omega⟩
          have zkp : (k : Int) = (kp : Int) + 1 := by omega
          have hI2 : (t : Int) < (kp : Int) + 1 := by omega
          obtain ⟨_, _, _, x1, x2, x3⟩ := Hw.out (kp - a) (by omega)
          rw [show a + (kp - a) = kp by omega, show kp - a + 1 = k - a by omega] at x3
          rw [show a + (kp - a) = kp by omega, show kp - a + 1 = k - a by omega] at x1 x2
          generalize L.getD (kp - a) 0 = y at *
          have hL := Hwl.out (k - a)
          obtain ⟨iN, hiN⟩ : ∃ z, z = kp + 1 := ⟨_, rfl⟩
          obtain ⟨jN, hjN⟩ : ∃ z, z = kp := ⟨_, rfl⟩
          have s1 : Sw w0 g N (wy P e L S (kp - a)) ((wr.setCell ⟨g, iN, none⟩ (.int .i64 (y : Nat))).setCell ⟨g, jN, none⟩ (.int .i64 (e : Nat))).drew := by
            rw [hiN, hjN]
            have := HS.out.swapped (kp + 1) kp (by omega) (by omega)
            rw [x3, x1, show k = kp + 1 by omega] at this
            rw [show k = kp + 1 by omega] at x2
            rw [x2] at this
            exact this
          rw [← hjN] at x1
          rw [← hiN] at x2
          have ea : ((kp : Int) + 1).toNat = iN := by omega
          have pa : (0 : Int) ≤ (kp : Int) + 1 := by omega
          have ba : (kp : Int) + 1 < (n : Int) := by omega
          have ra : IntKind.i64.wrap ((kp : Int) + 1) = (kp : Int) + 1 := by rw [IntKind.wrap_i64]; omega
          have eb : ((kp : Int)).toNat = jN := by omega
          have pb : (0 : Int) ≤ (kp : Int) := by omega
          have bb : (kp : Int) < (n : Int) := by omega
          have rb : IntKind.i64.wrap ((kp : Int)) = (kp : Int) := by rw [IntKind.wrap_i64]; omega
          have c1 := HS.out.cell iN (by omega)
          have c2 := HS.out.cell jN (by omega)
          have f1 := HS.out.free iN
          have f2 := HS.out.free jN
          have c3 := fun v => HS.out.c2 iN jN (by omega) (by omega) v
          rw [x2] at c1
          rw [x1] at c2
          rw [x1] at c3
          have c3 := c3 (.int .i64 (y : Int))
          have S1 := Lib.hid s1
          have hkk := Lib.hid hkp
          clear x1 x2 x3 s1 hiN hjN HS hL hkp
          go_wp2_with fail
          go_big_region_o
          clear c1 c2 c3 f1 f2
          generalize ((wr.setCell ⟨g, iN, none⟩ (.int .i64 (y : Int))).setCell ⟨g, jN, none⟩ (.int .i64 (e : Int))).drew = w3 at S1 ⊢
          clear ea eb
          go_wp2_with fail
          go_roundw
          case rel => exact ⟨kp, rfl, by have := hkk.out; omega, by have := hkk.out; omega, S1⟩
          case measure => simp [intOf]; omega
        · have hI2 : ¬ (t : Int) < (k : Int) := by omega
          obtain rfl : t = k := by omega
          go_wp2_with fail
          (try simp only [Exit.inBlock, Exit.then])
          refine bodyPost_ret (results_none rfl _ _ _) rfl ?_
          exact ⟨rfl, HS.out⟩
end Ssm
end Go.Proofs.YtoibpbnebcoafaaGreat
namespace Go.Proofs.YtoibpbnebcoafaaGreat
set_option maxRecDepth 20000
open Go.RowKit Go.Sort
namespace Ssm
/-- i places of each have changed. -/
def sr (P X M Y S : List Nat) (i : Nat) : List Nat := P ++ ((Y.take i ++ X.drop i) ++ (M ++ ((X.take i ++ Y.drop i) ++ S)))
section
variable (P X M Y S : List Nat)
theorem sr_zero : sr P X M Y S 0 = P ++ (X ++ (M ++ (Y ++ S))) := by simp [sr]
theorem sr_all (h : X.length = Y.length) : sr P X M Y S X.length = P ++ (Y ++ (M ++ (X ++ S))) := by
  unfold sr
  rw [List.take_of_length_le (by omega), List.drop_of_length_le (by omega), List.take_of_length_le (by omega), List.drop_of_length_le (by omega)]
  simp
theorem sr_len (i : Nat) : (sr P X M Y S i).length = (P ++ (X ++ (M ++ (Y ++ S)))).length := by
  simp only [sr, List.length_append, List.length_take, List.length_drop]
  omega
theorem sr_next {i : Nat} (h : X.length = Y.length) (hi : i < X.length) :
    (sr P X M Y S i).getD (P.length + i) 0 = X.getD i 0 ∧ (sr P X M Y S i).getD (P.length + X.length + M.length + i) 0 = Y.getD i 0 ∧
    swp (sr P X M Y S i) (P.length + i) (P.length + X.length + M.length + i) = sr P X M Y S (i + 1) := by
  have hx : X.drop i = X.getD i 0 :: X.drop (i + 1) := by
    rw [List.drop_eq_getElem_cons hi]
    simp [List.getD, List.getElem?_eq_getElem hi]
  have hy : Y.drop i = Y.getD i 0 :: Y.drop (i + 1) := by
    rw [List.drop_eq_getElem_cons (by omega)]
    simp [List.getD, List.getElem?_eq_getElem (show i < Y.length by omega)]
  have e : sr P X M Y S i = (P ++ Y.take i) ++ X.getD i 0 :: ((X.drop (i + 1) ++ (M ++ X.take i)) ++ Y.getD i 0 :: (Y.drop (i + 1) ++ S)) := by
    unfold sr
    rw [hx, hy]
    simp
  have e' : sr P X M Y S (i + 1) = (P ++ Y.take i) ++ Y.getD i 0 :: ((X.drop (i + 1) ++ (M ++ X.take i)) ++ X.getD i 0 :: (Y.drop (i + 1) ++ S)) := by
    have hx' : X.take (i + 1) = X.take i ++ [X.getD i 0] := by
      rw [List.take_succ_eq_append_getElem hi]
      simp [List.getD, List.getElem?_eq_getElem hi]
    have hy' : Y.take (i + 1) = Y.take i ++ [Y.getD i 0] := by
      rw [List.take_succ_eq_append_getElem (by omega)]
      simp [List.getD, List.getElem?_eq_getElem (show i < Y.length by omega)]
    unfold sr
    rw [hx', hy']
    simp
  have l1 : (P ++ Y.take i).length = P.length + i := by simp; omega
  have l2 : (P ++ Y.take i).length + 1 + (X.drop (i + 1) ++ (M ++ X.take i)).length = P.length + X.length + M.length + i := by simp; omega
  refine ⟨?_, ?_, ?_⟩
  · rw [e, ← l1]
    exact getD_at _ _ _
  · rw [e, ← l2]
    have := getD_at ((P ++ Y.take i) ++ X.getD i 0 :: (X.drop (i + 1) ++ (M ++ X.take i))) (Y.drop (i + 1) ++ S) (Y.getD i 0)
    rw [show ((P ++ Y.take i) ++ X.getD i 0 :: (X.drop (i + 1) ++ (M ++ X.take i))).length = (P ++ Y.take i).length + 1 + (X.drop (i + 1) ++ (M ++ X.take i)).length by simp only [List.length_append, List.length_cons]; omega] at this
    have q : (P ++ Y.take i) ++ X.getD i 0 :: ((X.drop (i + 1) ++ (M ++ X.take i)) ++ Y.getD i 0 :: (Y.drop (i + 1) ++ S)) = ((P ++ Y.take i) ++ X.getD i 0 :: (X.drop (i + 1) ++ (M ++ X.take i))) ++ Y.getD i 0 :: (Y.drop (i + 1) ++ S) := by simp
    rw [q]
    exact this
  · rw [e, e', ← l1, ← l2, l1]
    rw [← l1]
    exact swp_far _ _ _ _ _
end
set_option maxHeartbeats 4000000 in
theorem swapRange_any (f : Nat) (cap : Array Value) {g N : Nat} {w0 : World} (P X M Y S : List Nat) (a b k n c : Nat) (w : World) (ha : a = P.length) (hk : k = X.length) (hb : b = P.length + X.length + M.length) (hXY : X.length = Y.length)
    (hn : n = (P ++ (X ++ (M ++ (Y ++ S)))).length) (hm : n ≤ 1000000000) (h : Sw w0 g N (P ++ (X ++ (M ++ (Y ++ S)))) w) :
    Calls Tryz.prog 155 #[.slice (some ⟨g, 0, none⟩) n c, .int .i64 (a : Int), .int .i64 (b : Int), .int .i64 (k : Int), .func (.func f) #[] cap] w fun e w' => e = .returned (.tuple #[]) ∧ Sw w0 g N (P ++ (Y ++ (M ++ (X ++ S)))) w' := by
  have hbn : b + k ≤ n := by
    simp only [List.length_append] at hn
    omega
  have hab : a + k ≤ b := by omega
  have Hk := Lib.hid hk
  have Hn := Lib.hid (fun i => (sr_len P X M Y S i).trans hn.symm)
  have Hx := Lib.hid (fun i (hi : i < k) => sr_next P X M Y S hXY (i := i) (by omega))
  rw [← hb, ← ha] at Hx
  have Hz := Lib.hid (sr_zero P X M Y S ▸ h)
  have Ha := Lib.hid (sr_all P X M Y S hXY)
  clear h hn hb ha hXY hk
  go_enter Tryz.func155, Tryz.ntmps155
  go_wp2_with fail
  go_loopw [10] (fun i wr => ∃ j : Nat, i = .int .i64 j ∧ j ≤ k ∧ Sw w0 g N (sr P X M Y S j) wr) (fun i _ => k - (intOf i).toNat)
  case atStart => exact ⟨0, rfl, Nat.zero_le _, Hz.out⟩
  case round =>
    obtain ⟨j, rfl, hj, hS⟩ := hrel
    by_cases hlt : j < k
    · have hI : (j : Int) < (k : Int) := by omega
      obtain ⟨x1, x2, x3⟩ := Hx.out j hlt
      have hL := Hn.out j
      obtain ⟨iN, hiN⟩ : ∃ q, q = a + j := ⟨_, rfl⟩
      obtain ⟨jN, hjN⟩ : ∃ q, q = b + j := ⟨_, rfl⟩
      have hij : iN ≠ jN := by omega
      have s1 := hS.swapped iN jN (by omega) (by omega)
      have c1 := hS.cell iN (by omega)
      have c2 := hS.cell jN (by omega)
      have f1 := hS.free iN
      have f2 := hS.free jN
      have c3 := hS.c2 iN jN (by omega) hij (.int .i64 ((sr P X M Y S j).getD jN 0 : Nat))
      rw [hiN, hjN, x3, ← hiN, ← hjN] at s1
      generalize (sr P X M Y S j).getD jN 0 = y at *
      generalize (sr P X M Y S j).getD iN 0 = x at *
      have ea : ((a : Int) + (j : Int)).toNat = iN := by omega
      have pa : (0 : Int) ≤ (a : Int) + (j : Int) := by omega
      have ba : (a : Int) + (j : Int) < (n : Int) := by omega
      have ra : IntKind.i64.wrap ((a : Int) + (j : Int)) = (a : Int) + (j : Int) := by rw [IntKind.wrap_i64]; omega
      have eb : ((b : Int) + (j : Int)).toNat = jN := by omega
      have pb : (0 : Int) ≤ (b : Int) + (j : Int) := by omega
      have bb : (b : Int) + (j : Int) < (n : Int) := by omega
      have rb : IntKind.i64.wrap ((b : Int) + (j : Int)) = (b : Int) + (j : Int) := by rw [IntKind.wrap_i64]; omega
      have S1 := Lib.hid s1
      clear x1 x2 x3 hL hiN hjN hS s1
      go_wp2_with fail
      go_region
      clear c1 c2 c3 f1 f2
      generalize ((wr.setCell ⟨g, iN, none⟩ (.int .i64 (y : Int))).setCell ⟨g, jN, none⟩ (.int .i64 (x : Int))).drew = w3 at S1 ⊢
      clear ea eb
      go_wp2_with fail
      go_roundw
      case rel => exact ⟨j + 1, by go_num, by omega, S1.out⟩
      case measure => simp [intOf]; omega
    · have hI : ¬ (j : Int) < (k : Int) := by omega
      obtain rfl : j = k := by omega
      go_wp2_with fail
      go_end0
      refine ⟨rfl, ?_⟩
      have := Hk.out
      subst this
      rw [← Ha.out]
      exact hS
end Ssm
end Go.Proofs.YtoibpbnebcoafaaGreat
namespace Go.Proofs.YtoibpbnebcoafaaGreat
set_option maxRecDepth 20000
open Go.RowKit Go.Sort
namespace Ssm
/-- What is still to turn: i places ahead of m, and j from m on; T is what it comes to. -/
structure Rot (T : List Nat) (m n i j : Nat) (K : List Nat) : Prop where
  ex : ∃ P Y Z S, K = P ++ (Y ++ (Z ++ S)) ∧ T = P ++ (Z ++ (Y ++ S)) ∧ i = Y.length ∧ j = Z.length ∧ m = P.length + Y.length
  len : n = K.length
  i0 : 0 < i
  j0 : 0 < j
  bd : i ≤ m ∧ m + j ≤ n
theorem rot_start {P L R S : List Nat} {m n : Nat} (hm : m = P.length + L.length) (hn : n = (P ++ (L ++ (R ++ S))).length) (hL : 0 < L.length) (hR : 0 < R.length) : Rot (P ++ (R ++ (L ++ S))) m n L.length R.length (P ++ (L ++ (R ++ S))) :=
  ⟨⟨P, L, R, S, rfl, rfl, rfl, rfl, hm⟩, hn, hL, hR, by simp only [List.length_append] at hn; omega⟩
section
variable (f : Nat) (cap : Array Value) {g N : Nat} {w0 : World} {T K : List Nat} {m n c i j : Nat} {w : World}
theorem rot_big (h : Rot T m n i j K) (hij : j < i) (hm : n ≤ 1000000000) (hS : Sw w0 g N K w) :
    Calls Tryz.prog 155 #[.slice (some ⟨g, 0, none⟩) n c, .int .i64 ((m : Int) - (i : Int)), .int .i64 (m : Int), .int .i64 (j : Int), .func (.func f) #[] cap] w fun e w' => e = .returned (.tuple #[]) ∧ ∃ K', Sw w0 g N K' w' ∧ Rot T m n (i - j) j K' := by
  obtain ⟨⟨P, Y, Z, S, rfl, rfl, hi, hj, hmm⟩, hlen, hi0, hj0, hb⟩ := h
  have e : P ++ (Y ++ (Z ++ S)) = P ++ (Y.take j ++ (Y.drop j ++ (Z ++ S))) := by rw [← List.append_assoc (Y.take j), List.take_append_drop]
  have hlen2 := hlen
  rw [e] at hS hlen
  have hc := swapRange_any f cap P (Y.take j) (Y.drop j) Z S (m - i) m j n c w (by omega) (by rw [List.length_take]; omega) (by rw [List.length_take, List.length_drop]; omega) (by rw [List.length_take]; omega) hlen hm hS
  rw [show ((m - i : Nat) : Int) = (m : Int) - (i : Int) by omega] at hc
  refine hc.mono ?_
  rintro e' w' ⟨rfl, h1⟩
  have e2 : P ++ (Z ++ (Y.drop j ++ (Y.take j ++ S))) = (P ++ Z) ++ (Y.drop j ++ (Y.take j ++ S)) := by simp
  rw [e2] at h1
  refine ⟨rfl, _, h1, ⟨P ++ Z, Y.drop j, Y.take j, S, rfl, ?_, by rw [List.length_drop]; omega, by rw [List.length_take]; omega, by rw [List.length_append, List.length_drop]; omega⟩, ?_, by omega, hj0, by omega⟩
  · rw [← List.append_assoc (Y.take j), List.take_append_drop]
    simp
  · rw [hlen2]
    simp only [List.length_append, List.length_take, List.length_drop]
    omega
theorem rot_small (h : Rot T m n i j K) (hij : i < j) (hm : n ≤ 1000000000) (hS : Sw w0 g N K w) :
    Calls Tryz.prog 155 #[.slice (some ⟨g, 0, none⟩) n c, .int .i64 ((m : Int) - (i : Int)), .int .i64 ((m : Int) + (j : Int) - (i : Int)), .int .i64 (i : Int), .func (.func f) #[] cap] w fun e w' => e = .returned (.tuple #[]) ∧ ∃ K', Sw w0 g N K' w' ∧ Rot T m n i (j - i) K' := by
  obtain ⟨⟨P, Y, Z, S, rfl, rfl, hi, hj, hmm⟩, hlen, hi0, hj0, hb⟩ := h
  have e : P ++ (Y ++ (Z ++ S)) = P ++ (Y ++ (Z.take (j - i) ++ (Z.drop (j - i) ++ S))) := by rw [← List.append_assoc (Z.take (j - i)), List.take_append_drop]
  have hlen2 := hlen
  rw [e] at hS hlen
  have hc := swapRange_any f cap P Y (Z.take (j - i)) (Z.drop (j - i)) S (m - i) (m + j - i) i n c w (by omega) hi (by rw [List.length_take]; omega) (by rw [List.length_drop]; omega) hlen hm hS
  rw [show ((m - i : Nat) : Int) = (m : Int) - (i : Int) by omega, show ((m + j - i : Nat) : Int) = (m : Int) + (j : Int) - (i : Int) by omega] at hc
  refine hc.mono ?_
  rintro e' w' ⟨rfl, h1⟩
  refine ⟨rfl, _, h1, ⟨P, Z.drop (j - i), Z.take (j - i), Y ++ S, rfl, ?_, by rw [List.length_drop]; omega, by rw [List.length_take]; omega, by rw [List.length_drop]; omega⟩, ?_, hi0, by omega, by omega⟩
  · rw [← List.append_assoc (Z.take (j - i)), List.take_append_drop]
  · rw [hlen2]
    simp only [List.length_append, List.length_take, List.length_drop]
    omega
theorem rot_end (h : Rot T m n i i K) (hm : n ≤ 1000000000) (hS : Sw w0 g N K w) :
    Calls Tryz.prog 155 #[.slice (some ⟨g, 0, none⟩) n c, .int .i64 ((m : Int) - (i : Int)), .int .i64 (m : Int), .int .i64 (i : Int), .func (.func f) #[] cap] w fun e w' => e = .returned (.tuple #[]) ∧ Sw w0 g N T w' := by
  obtain ⟨⟨P, Y, Z, S, rfl, rfl, hi, hj, hmm⟩, hlen, hi0, hj0, hb⟩ := h
  have hc := swapRange_any f cap P Y [] Z S (m - i) m i n c w (by omega) hi (by simp; omega) (by omega) (by rw [hlen]; simp) hm (by simpa using hS)
  rw [show ((m - i : Nat) : Int) = (m : Int) - (i : Int) by omega] at hc
  refine hc.mono ?_
  rintro e' w' ⟨rfl, h1⟩
  exact ⟨rfl, by simpa using h1⟩
end
set_option maxHeartbeats 4000000 in
theorem rotate_any (f : Nat) (cap : Array Value) {g N : Nat} {w0 : World} (P L R S : List Nat) (a m b n c : Nat) (w : World) (ha : a = P.length) (hmm : m = a + L.length) (hb : b = m + R.length) (hL : 0 < L.length) (hR : 0 < R.length)
    (hn : n = (P ++ (L ++ (R ++ S))).length) (hm : n ≤ 1000000000) (h : Sw w0 g N (P ++ (L ++ (R ++ S))) w) :
    Calls Tryz.prog 134 #[.slice (some ⟨g, 0, none⟩) n c, .int .i64 (a : Int), .int .i64 (m : Int), .int .i64 (b : Int), .func (.func f) #[] cap] w fun e w' => e = .returned (.tuple #[]) ∧ Sw w0 g N (P ++ (R ++ (L ++ S))) w' := by
  have hR0 := rot_start (P := P) (L := L) (R := R) (S := S) (m := m) (n := n) (by omega) hn hL hR
  obtain ⟨T, hT⟩ : ∃ T, T = P ++ (R ++ (L ++ S)) := ⟨_, rfl⟩
  rw [← hT] at hR0 ⊢
  obtain ⟨K, hK⟩ : ∃ K, K = P ++ (L ++ (R ++ S)) := ⟨_, rfl⟩
  rw [← hK] at hR0 h
  obtain ⟨i0, hi0⟩ : ∃ i0, i0 = L.length := ⟨_, rfl⟩
  obtain ⟨j0, hj0⟩ : ∃ j0, j0 = R.length := ⟨_, rfl⟩
  rw [← hi0, ← hj0] at hR0
  have am : a + i0 ≤ m ∧ m ≤ a + i0 := by omega
  have bm : m + j0 ≤ b ∧ b ≤ m + j0 := by omega
  have H0 := Lib.hid (And.intro hR0 h)
  have hbd := hR0.bd
  clear h hR0 hT hK hi0 hj0 hL hR hn ha hb hmm
  go_enter Tryz.func134, Tryz.ntmps134
  go_wp2_with fail
  go_loopw [10, 11] (fun vi vj wr => ∃ (i j : Nat) (K' : List Nat), vi = .int .i64 i ∧ vj = .int .i64 j ∧ Hid (Rot T m n i j K' ∧ Sw w0 g N K' wr)) (fun vi vj _ => (intOf vi).toNat + (intOf vj).toNat)
  case atStart => exact ⟨i0, j0, K, by congr 1; omega, by congr 1; omega, H0⟩
  case round =>
    obtain ⟨i, j, K', rfl, rfl, HR⟩ := hrel
    have q0 := HR.out.1.bd
    have q1 := HR.out.1.i0
    have q2 := HR.out.1.j0
    rcases Nat.lt_trichotomy i j with q | q | q
    · have hI : (i : Int) < (j : Int) := by omega
      have hc := Lib.hid (rot_small (c := c) f cap HR.out.1 q hm HR.out.2)
      go_wp2_with fail
      refine hc.out.mono ?_
      rintro e w' ⟨rfl, K2, hS2, hR2⟩
      have H2 := Lib.hid (And.intro hR2 hS2)
      clear hc hS2 hR2 HR
      go_wp2_with fail
      go_roundw
      case rel => exact ⟨i, j - i, K2, rfl, by first | go_num | (congr 1; omega), H2⟩
      case measure => simp [intOf]; omega
    · subst q
      have hc := Lib.hid (rot_end (c := c) f cap HR.out.1 hm HR.out.2)
      clear HR
      go_wp2_with fail
      refine hc.out.mono ?_
      rintro e w' ⟨rfl, hS2⟩
      go_wp2_with fail
      go_end0
      exact ⟨rfl, hS2⟩
    · have hI : (j : Int) < (i : Int) := by omega
      have hc := Lib.hid (rot_big (c := c) f cap HR.out.1 q hm HR.out.2)
      go_wp2_with fail
      refine hc.out.mono ?_
      rintro e w' ⟨rfl, K2, hS2, hR2⟩
      have H2 := Lib.hid (And.intro hR2 hS2)
      clear hc hS2 hR2 HR
      go_wp2_with fail
      go_roundw
      case rel => exact ⟨i - j, j, K2, by first | go_num | (congr 1; omega), rfl, H2⟩
      case measure => simp [intOf]; omega
end Ssm
end Go.Proofs.YtoibpbnebcoafaaGreat
