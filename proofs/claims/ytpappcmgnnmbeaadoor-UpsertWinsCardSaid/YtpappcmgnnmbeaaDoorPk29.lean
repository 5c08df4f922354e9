/- Package bitset: Count; math/bits' OnesCount64. Package bitset: Same; slices.Equal of words. What the condition on the package-level variable gives a walk: the table of math/bits, cell by cell. -/
import Derived.OpenShut
import Derived.LaidHandle
import Derived.Stop.Joined
import Derived.Test.YtpappcmgnnmbeaaDoorPk25
import Derived.Test.YtpappcmgnnmbeaaDoorPk09
import Derived.Test.YtpappcmgnnmbeaaDoorPk28
import Derived.Test.YtpappcmgnnmbeaaDoorPk26
import Derived.Test.YtpappcmgnnmbeaaDoorRows
namespace Go.Proofs.YtpappcmgnnmbeaaDoor
set_option maxRecDepth 20000
open Go.RowKit
namespace Bw
open Bs Bx Bi
theorem and_i64 (a : Nat) (ha : a < 9223372036854775808) : bits .and .i64 (a : Int) 127 = ((a % 128 : Nat) : Int) := by
  have h1 : (BitVec.ofInt 64 (a : Int)).toNat = a := by
    rw [BitVec.ofInt_natCast, BitVec.toNat_ofNat]; exact Nat.mod_eq_of_lt (by omega)
  have h2 : (BitVec.ofInt 64 (127 : Int)).toNat = 127 := by decide
  show IntKind.i64.wrap ((BitVec.ofInt 64 (a : Int) &&& BitVec.ofInt 64 (127 : Int)).toNat : Int) = _
  rw [BitVec.toNat_and, h1, h2, show (127 : Nat) = 2 ^ 7 - 1 by rfl, Nat.and_two_pow_sub_one_eq_mod, IntKind.wrap_i64]
  omega
set_option maxHeartbeats 2000000 in
theorem ones_any (x : Nat) (hx : x < 18446744073709551616) (w : World) :
    Calls Tryd.prog 55 #[.int .u64 (x : Int)] w fun e w' => e = .returned (.int .i64 (pop x : Int)) ∧ w' = w := by
  obtain ⟨x1, x2, x3, x4, x5, x6, h1, l1, h2, l2, l3, h3, h4, l4, h5, l5, h6, l6, hp⟩ := ones_all x hx
  have a1 := bits_and_u64_nat (x / 2) 6148914691236517205 (by omega) (by omega)
  have a2 := bits_and_u64_nat x 6148914691236517205 (by omega) (by omega)
  have a3 := bits_and_u64_nat (x1 / 4) 3689348814741910323 (by omega) (by omega)
  have a4 := bits_and_u64_nat x1 3689348814741910323 (by omega) (by omega)
  have a5 := bits_and_u64_nat (x2 / 16 + x2) 1085102592571150095 (by omega) (by omega)
  have a6 := and_i64 x6 (by omega)
  obtain ⟨p1, hp1⟩ : ∃ p, p = x / 2 &&& 6148914691236517205 := ⟨_, rfl⟩
  obtain ⟨p2, hp2⟩ : ∃ p, p = x &&& 6148914691236517205 := ⟨_, rfl⟩
  obtain ⟨p3, hp3⟩ : ∃ p, p = x1 / 4 &&& 3689348814741910323 := ⟨_, rfl⟩
  obtain ⟨p4, hp4⟩ : ∃ p, p = x1 &&& 3689348814741910323 := ⟨_, rfl⟩
  rw [← hp1, ← hp2] at h1
  rw [← hp3, ← hp4] at h2
  rw [← hp1] at a1
  rw [← hp2] at a2
  rw [← hp3] at a3
  rw [← hp4] at a4
  rw [← h3] at a5
  rw [hp] at a6
  have w1 : IntKind.u64.wrap ((p1 : Int) + (p2 : Int)) = (x1 : Int) := by rw [IntKind.wrap_u64]; omega
  have w2 : IntKind.u64.wrap ((p3 : Int) + (p4 : Int)) = (x2 : Int) := by rw [IntKind.wrap_u64]; omega
  have w3 : IntKind.u64.wrap ((x2 : Int) / 16 + (x2 : Int)) = ((x2 / 16 + x2 : Nat) : Int) := by rw [IntKind.wrap_u64]; omega
  have w4 : IntKind.u64.wrap ((x3 : Int) + (x3 : Int) / 256) = (x4 : Int) := by rw [IntKind.wrap_u64]; omega
  have w5 : IntKind.u64.wrap ((x4 : Int) + (x4 : Int) / 65536) = (x5 : Int) := by rw [IntKind.wrap_u64]; omega
  have w6 : IntKind.u64.wrap ((x5 : Int) + (x5 : Int) / 4294967296) = (x6 : Int) := by rw [IntKind.wrap_u64]; omega
  have w7 : IntKind.i64.wrap (x6 : Int) = (x6 : Int) := by rw [IntKind.wrap_i64]; omega
  obtain ⟨r, hr⟩ : ∃ r, r = pop x := ⟨_, rfl⟩
  rw [← hr] at a6 ⊢
  clear hp1 hp2 hp3 hp4 h1 h2 h3 h4 h5 h6 l1 l2 l3 l4 l5 l6 hp hr
  simp only [Int.natCast_ediv, Int.natCast_add, Int.cast_ofNat_Int] at a1 a2 a3 a4 a5 w3
  go_enter Tryd.func55, Tryd.ntmps55
  go_wp2_with fail
  go_ret
  exact ⟨rfl, rfl⟩
theorem sum_next (L : List Nat) (q : Nat) (h : q < L.length) : ((L.take (q + 1)).map pop).sum = ((L.take q).map pop).sum + pop (L.getD q 0) := by
  rw [List.take_succ_eq_append_getElem h, List.map_append, List.sum_append]
  simp [List.getD, h]
set_option maxHeartbeats 4000000 in
theorem count_any (A : Option Addr) (n c : Nat) (X : List Int) (w : World) (hX : St w A n c X) :
    Calls Tryd.prog 29 #[.agg #[.slice A n c]] w fun e w' => e = .returned (.int .i64 (X.length : Int)) ∧ Below w.heap.size w w' := by
  obtain ⟨L, hS, hL, tL, rfl⟩ := hX
  have hb0 := (Below.refl w.heap.size w).alloc (Nat.le_refl _) (.cells #[.slice A n c] 54)
  have c0 := box1 w A n c
  have hcap := hS.cap
  have hmx := hS.max
  unfold maxLen at hmx
  have hn : n = L.length := by rw [hS.len, nat_len]
  have hn1 : n ≤ 1024 := by rw [hn]; exact hL.1
  have HS := Lib.hid (hS.below hb0)
  have Hn := Lib.hid hn
  have HL := Lib.hid hL
  have Hb := Lib.hid hb0
  have Ones := Lib.hid fun x hx w => ones_any x hx w
  obtain ⟨T, hT⟩ : ∃ T : Nat → Nat, T = fun q => ((L.take q).map pop).sum := ⟨_, rfl⟩
  have HT1 := Lib.hid (show ∀ q, q < n → T (q + 1) = T q + pop (L.getD q 0) from fun q hq => by rw [hT]; exact sum_next L q (by omega))
  have HT2 := Lib.hid (show ∀ q, q ≤ n → T q ≤ 65536 from fun q hq => by rw [hT]; have := sum_le (L.take q); simp only [List.length_take] at this; show ((L.take q).map pop).sum ≤ 65536; omega)
  have HT3 := Lib.hid (show T n = (lstW L).length by rw [hT, lstW_len, hn]; show ((L.take L.length).map pop).sum = _; rw [List.take_length])
  have HT0 := Lib.hid (show T 0 = 0 by rw [hT]; rfl)
  rw [← HT3.out]
  clear hS hn hL tL hT hb0
  go_enter Tryd.func29, Tryd.ntmps29
  go_wp2_with fail
  go_loopw [3, 5, 9] (fun s u j wr => ∃ q : Nat, j = .int .i64 q ∧ q ≤ n ∧ s = .int .i64 (T q : Int) ∧ wr = w.alloc (.cells #[.slice A n c] 54)) (fun _ _ j _ => n - (intOf j).toNat)
  case atStart => exact ⟨0, rfl, Nat.zero_le _, by rw [HT0.out]; rfl, rfl⟩
  case round =>
    obtain ⟨q, rfl, hk, rfl, rfl⟩ := hrel
    by_cases hlt : q < n
    · have hkI : (q : Int) < n := by omega
      have hq0 : (0 : Int) ≤ (q : Int) := by omega
      obtain ⟨b1, o1, hA1, hb1, hc1⟩ := HS.out.rd q (by rw [nat_len, ← Hn.out]; omega)
      subst hA1
      rw [nat_getD] at hc1
      have C := Lib.hid (Ones.out (L.getD q 0) (HL.out.2 q))
      have h1 := HT1.out q hlt
      have h2 := HT2.out q hk
      have h3 := HT2.out (q + 1) (by omega)
      obtain ⟨x, hx⟩ : ∃ x, x = L.getD q 0 := ⟨_, rfl⟩
      rw [← hx] at hc1 C h1
      obtain ⟨p, hp⟩ : ∃ p, p = pop x := ⟨_, rfl⟩
      rw [← hp] at C h1
      have e1 : IntKind.i64.wrap ((T q : Int) + (p : Int)) = (T (q + 1) : Int) := by rw [IntKind.wrap_i64]; omega
      have e2 : (T q : Int) + (p : Int) = (T (q + 1) : Int) := by omega
      obtain ⟨y, hy⟩ : ∃ y, y = T (q + 1) := ⟨_, rfl⟩
      rw [← hy] at e1 e2
      have hy1 : y ≤ 65536 := by omega
      have Hy := Lib.hid hy
      clear hx hp h1 h2 h3 hy
      go_wp2_with fail
      refine (C.out _).mono ?_
      rintro e w2 ⟨rfl, rfl⟩
      go_wp2_with fail
      go_roundw
      case rel => exact ⟨q + 1, by go_num, by omega, by rw [← Hy.out], trivial⟩
      case measure => simp [intOf]; omega
    · have hkI : ¬ (q : Int) < n := by omega
      obtain rfl : q = n := by omega
      go_wp2_with fail
      go_ret
      exact ⟨rfl, Hb.out⟩
end Bw
end Go.Proofs.YtpappcmgnnmbeaaDoor
namespace Go.Proofs.YtpappcmgnnmbeaaDoor
set_option maxRecDepth 20000
open Go.RowKit
namespace Bw
open Bs Bx Bi
theorem take_ext {L M : List Nat} {q : Nat} (h1 : q < L.length) (h2 : q < M.length) (h : L.take q = M.take q) (e : L.getD q 0 = M.getD q 0) : L.take (q + 1) = M.take (q + 1) := by
  rw [List.take_succ_eq_append_getElem h1, List.take_succ_eq_append_getElem h2, h]
  rw [List.getD_eq_getElem?_getD, List.getD_eq_getElem?_getD, List.getElem?_eq_getElem h1, List.getElem?_eq_getElem h2] at e
  simp only [Option.getD_some] at e
  rw [e]
set_option maxHeartbeats 4000000 in
theorem equal_any (A B : Option Addr) (n c m d : Nat) (L M : List Nat) (r : Bool) (w : World) (hS : Wd.Sl w .u64 A n c (nat L)) (hT : Wd.Sl w .u64 B m d (nat M)) (hL : Wo L) (hM : Wo M) (hr : r = decide (L = M)) :
    Calls Tryd.prog 71 #[.slice A n c, .slice B m d] w fun e w' => e = .returned (.bool r) ∧ Below w.heap.size w w' := by
  have hn : n = L.length := by rw [hS.len, nat_len]
  have hm : m = M.length := by rw [hT.len, nat_len]
  have hn1 : n ≤ 1024 := by rw [hn]; exact hL.1
  have hm1 : m ≤ 1024 := by rw [hm]; exact hM.1
  have hcap := hS.cap
  have hmx := hS.max
  have hcap2 := hT.cap
  have hmx2 := hT.max
  unfold maxLen at hmx hmx2
  have HS := Lib.hid hS
  have HT := Lib.hid hT
  have Hn := Lib.hid hn
  have Hm := Lib.hid hm
  have Hr := Lib.hid hr
  clear hS hT hn hm hL hM hr
  by_cases hnm : n = m
  case neg =>
    have e := Lib.hid (show r = false by rw [Hr.out, decide_eq_false]; rintro rfl; exact hnm (Hn.out.trans Hm.out.symm))
    have hne : ((n : Int) == (m : Int)) = false := by simpa using fun h => hnm (by omega)
    go_enter Tryd.func71, Tryd.ntmps71
    go_wp2_with fail
    go_ret
    exact ⟨by rw [e.out]; rfl, Below.refl _ _⟩
  subst hnm
  go_enter Tryd.func71, Tryd.ntmps71
  go_wp2_with fail
  go_loopw [5, 13] (fun u j wr => ∃ q : Nat, j = .int .i64 q ∧ q ≤ n ∧ Hid (L.take q = M.take q) ∧ Below w.heap.size w wr) (fun _ j _ => n - (intOf j).toNat)
  case atStart => exact ⟨0, rfl, Nat.zero_le _, Lib.hid rfl, Below.refl _ _⟩
  case round =>
    obtain ⟨q, rfl, hk, he, hB⟩ := hrel
    by_cases hlt : q < n
    · have hkI : (q : Int) < n := by omega
      have hq0 : (0 : Int) ≤ (q : Int) := by omega
      have HqL := Lib.hid (show q < L.length by rw [← Hn.out]; exact hlt)
      have HqM := Lib.hid (show q < M.length by rw [← Hm.out]; exact hlt)
      obtain ⟨b1, o1, hA1, hb1, hc1⟩ := (HS.out.below hB).rd q (by rw [nat_len]; exact HqL.out)
      obtain ⟨b2, o2, hA2, hb2, hc2⟩ := (HT.out.below hB).rd q (by rw [nat_len]; exact HqM.out)
      subst hA1 hA2
      rw [nat_getD] at hc1 hc2
      obtain ⟨x, hx⟩ : ∃ x, x = L.getD q 0 := ⟨_, rfl⟩
      obtain ⟨y, hy⟩ : ∃ y, y = M.getD q 0 := ⟨_, rfl⟩
      rw [← hx] at hc1
      rw [← hy] at hc2
      have Hx := Lib.hid hx
      have Hy := Lib.hid hy
      have HB := Lib.hid hB
      clear hx hy hB
      by_cases hxy : x = y
      · subst hxy
        have hn := Lib.hid (take_ext HqL.out HqM.out he.out (Hx.out.symm.trans Hy.out))
        go_wp2_with fail
        go_quiet (fail)
        go_wp2_with fail
        go_roundw
        case rel => exact ⟨q + 1, by go_num, by omega, hn, Wd.below_drewN HB.out _⟩
        case measure => simp [intOf]; omega
      · have e := Lib.hid (show r = false by
          rw [Hr.out, decide_eq_false]
          intro h
          exact hxy (by rw [Hx.out, Hy.out, h]))
        have hne : ((x : Int) == (y : Int)) = false := by simpa using fun h => hxy (by omega)
        go_wp2_with fail
        go_quiet (fail)
        go_wp2_with fail
        go_ret
        exact ⟨by rw [e.out]; rfl, Wd.below_drewN HB.out _⟩
    · have hkI : ¬ (q : Int) < n := by omega
      have e := Lib.hid (show r = true by
        rw [Hr.out, decide_eq_true]
        have h := he.out
        rw [List.take_of_length_le (by rw [← Hn.out]; omega), List.take_of_length_le (by rw [← Hm.out]; omega)] at h
        exact h)
      go_wp2_with fail
      go_ret
      exact ⟨by rw [e.out]; rfl, hB⟩
set_option maxHeartbeats 4000000 in
theorem same_any (A : Option Addr) (n c : Nat) (X : List Int) (B : Option Addr) (m d : Nat) (Y : List Int) (w : World) (hX : St w A n c X) (hY : St w B m d Y) :
    Calls Tryd.prog 51 #[.agg #[.slice A n c], .agg #[.slice B m d]] w fun e w' => e = .returned (.bool (decide (X = Y))) ∧ Below w.heap.size w w' := by
  obtain ⟨L, hS, hL, tL, rfl⟩ := hX
  obtain ⟨M, hT, hM, tM, rfl⟩ := hY
  have hb0 := ((Below.refl w.heap.size w).alloc (Nat.le_refl _) (.cells #[.slice A n c] 54)).alloc (by simp) (.cells #[.slice B m d] 54)
  have x0 : Wd.Var ((w.alloc (.cells #[.slice A n c] 54)).alloc (.cells #[.slice B m d] 54)) w.heap.size 54 (.slice A n c) := (Wd.Var.new w _ _).alloc _
  have x1 : Wd.Var ((w.alloc (.cells #[.slice A n c] 54)).alloc (.cells #[.slice B m d] 54)) (w.heap.size + 1) 54 (.slice B m d) := by
    have := Wd.Var.new (w.alloc (.cells #[.slice A n c] 54)) 54 (.slice B m d)
    rwa [World.size_alloc] at this
  have c0 := x0.cell
  have c1 := x1.cell
  have C := Lib.hid (equal_any A B n c m d L M (decide (L = M)) _ (hS.below hb0) (hT.below hb0) hL hM rfl)
  have hr : decide (lstW L = lstW M) = decide (L = M) := decide_eq_decide.2 (same_lst hL hM tL tM)
  rw [hr]
  obtain ⟨r, hq⟩ : ∃ r, r = decide (L = M) := ⟨_, rfl⟩
  rw [← hq] at C ⊢
  clear hS hT hL hM tL tM x0 x1 hr hq
  go_enter Tryd.func51, Tryd.ntmps51
  go_wp2_with fail
  refine C.out.mono ?_
  rintro e w2 ⟨rfl, hB⟩
  have hb2 := hb0.trans (hB.mono (by simp; omega))
  go_wp2_with fail
  go_ret
  exact ⟨rfl, hb2⟩
end Bw
end Go.Proofs.YtpappcmgnnmbeaaDoor
namespace Go.Proofs.YtpappcmgnnmbeaaDoor
set_option maxRecDepth 20000
open Go.ChangeShapes Go.WideShapes Go.RowKit
namespace Bw
open Bs Bx Bi
theorem gT : Tryd.prog.globalNamed "math/bits.deBruijn64tab" = some 0 := by kernel_rfl
theorem tT : (Tryd.prog.globals[0]?).map (·.type) = some 117 := by kernel_rfl
theorem c8 : Tryd.prog.cellsOf 5 = 1 := by kernel_rfl
theorem tab_of_laid {W : World} (h : laidMetH Tryd.prog [("math/bits.deBruijn64tab", Rows.laid_math_bits_deBruijn64tab)] W) : Tab W := by
  have h' : laidMet Tryd.prog [("math/bits.deBruijn64tab", Rows.laid_math_bits_deBruijn64tab)] W := h
  obtain ⟨ps, ⟨g, t, cs, fuel, p, q, hg, ht, hv, hd, _, _⟩, _, _⟩ := h'
  obtain rfl := Option.some.inj (gT.symm.trans hg)
  obtain rfl := Option.some.inj (tT.symm.trans ht)
  obtain ⟨xs, m, rfl, hx, hl, hn, hi⟩ := DataW.trod_array Tryd.underlying117 hd
  have hm : xs.map (·.1) = Lib.deBruijn64tab.map fun (k : Nat) => (DataW.lit (.int .u8 (k : Int)) : DataW Unit) := by
    have e := (congrArg Prod.fst hx).symm
    exact DataW.agg.inj e
  intro j hj
  have h1 := hi j hj
  have hjx : j < xs.length := by rw [hn]; exact hj
  rw [List.getElem?_eq_getElem hjx, c8, Nat.mul_one] at h1
  obtain ⟨k, e1, e2, _⟩ := DataW.trod_int Tryd.underlying5 h1
  have e3 := congrArg (fun l : List (DataW Unit) => l[j]?) hm
  simp only [List.getElem?_map, List.getElem?_eq_getElem hjx, Option.map_some, e2] at e3
  have hjt : j < Lib.deBruijn64tab.length := hj
  rw [List.getElem?_eq_getElem hjt, Option.map_some] at e3
  simp only [Option.some.injEq, DataW.lit.injEq, Lit.int.injEq, true_and] at e3
  rw [World.var?_cell gT hv j, List.getD_eq_getElem?_getD, List.getElem?_eq_getElem hjt, Option.getD_some, ← e3]
  have e4 := congrArg (fun l : List Value => l[0]?) e1
  simp only [List.getElem?_cons_zero] at e4
  rw [List.getElem?_take, List.getElem?_drop] at e4
  simpa using e4
/-- What the rows list of the package-level variables. -/
abbrev ls : List (String × DataW Unit) := [("math/bits.deBruijn64tab", Rows.laid_math_bits_deBruijn64tab)]
end Bw
end Go.Proofs.YtpappcmgnnmbeaaDoor
