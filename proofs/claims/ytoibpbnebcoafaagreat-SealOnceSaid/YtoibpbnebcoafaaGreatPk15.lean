/- Package seal: within, mayHead, rise, fit. Package seal: fit: do all rows fit a schema that may be? A row of numbers that a sort turns: its memory, what a comparison may leave of the world, an exchange. -/
import Derived.Lib.Hide
import Derived.Sort.Grow
import Derived.Test.YtoibpbnebcoafaaGreatPk10
import Derived.Test.YtoibpbnebcoafaaGreatPk13
import Derived.Test.YtoibpbnebcoafaaGreatPk14
import Derived.Test.YtoibpbnebcoafaaGreatPk01
namespace Go.Proofs.YtoibpbnebcoafaaGreat
set_option maxRecDepth 20000
open Go.RowKit
namespace Se
open Va (Vl)
open Sc (Sch MayS FitS tr tr_yes tr_no tr_iff tr_congr)
open Sx (Sb five)
open Wd (Cr)
theorem within_any (n lo hi : Int) (w : World) :
    Calls Tryz.prog 43 #[.int .i64 n, .int .i64 lo, .int .i64 hi] w fun e w' => e = .returned (.bool (tr (lo ≤ n ∧ n ≤ hi))) ∧ w' = w := by
  by_cases h1 : lo ≤ n
  · by_cases h2 : n ≤ hi
    · rw [tr_yes ⟨h1, h2⟩]
      go_enter Tryz.func43, Tryz.ntmps43
      go_wp2_with fail
      go_ret
      exact ⟨rfl, rfl⟩
    · rw [tr_no fun q => h2 q.2]
      go_enter Tryz.func43, Tryz.ntmps43
      go_wp2_with fail
      go_ret
      exact ⟨rfl, rfl⟩
  · rw [tr_no fun q => h1 q.1]
    go_enter Tryz.func43, Tryz.ntmps43
    go_wp2_with fail
    go_ret
    exact ⟨rfl, rfl⟩
set_option maxHeartbeats 1000000 in
theorem head_any (OA : Option Addr) (on oc : Nat) (CA : Option Addr) (cn cc : Nat) (x : Seg) (w : World) :
    Calls Tryz.prog 33 #[.agg #[.int .i64 x.part, .int .i64 x.id, .int .i64 x.st, .int .i64 x.en, .slice OA on oc, .slice CA cn cc]] w fun e w' => e = .returned (.bool (tr (Head x))) ∧ Below w.heap.size w w' := by
  have C := Lib.hid within_any
  obtain ⟨a, b, c, d, of, cl⟩ := x
  obtain ⟨r, hr⟩ : ∃ r, r = tr (Head ⟨a, b, c, d, of, cl⟩) := ⟨_, rfl⟩
  rw [← hr]
  have hN : ¬ Head ⟨a, b, c, d, of, cl⟩ → r = false := fun q => by rw [hr]; exact tr_no q
  by_cases h1 : 0 ≤ a ∧ a ≤ 3
  case neg =>
    have e := Lib.hid (hN fun q => h1 ⟨q.1, by have : a < 4 := q.2.1; omega⟩)
    have q1 := Lib.hid (tr_no h1)
    clear hN hr h1
    go_enter Tryz.func33, Tryz.ntmps33
    go_wp2_with fail
    refine (C.out _ _ _ _).mono ?_
    rintro e' w' ⟨rfl, rfl⟩
    rw [q1.out]
    go_wp2_with fail
    go_ret
    exact ⟨by rw [e.out]; rfl, (Below.refl _ _).alloc (Nat.le_refl _) _⟩
  have q1 := Lib.hid (tr_yes h1)
  by_cases h2 : 1 ≤ b ∧ b ≤ 1073741824
  case neg =>
    have e := Lib.hid (hN fun q => h2 ⟨q.2.2.1, q.2.2.2.1⟩)
    have q2 := Lib.hid (tr_no h2)
    clear hN hr h1 h2
    go_enter Tryz.func33, Tryz.ntmps33
    go_wp2_with fail
    refine (C.out _ _ _ _).mono ?_
    rintro e' w' ⟨rfl, rfl⟩
    rw [q1.out]
    go_wp2_with fail
    refine (C.out _ _ _ _).mono ?_
    rintro e' w' ⟨rfl, rfl⟩
    rw [q2.out]
    go_wp2_with fail
    go_ret
    exact ⟨by rw [e.out]; rfl, (Below.refl _ _).alloc (Nat.le_refl _) _⟩
  have q2 := Lib.hid (tr_yes h2)
  by_cases h3 : 0 ≤ c
  case neg =>
    have e := Lib.hid (hN fun q => h3 q.2.2.2.2.1)
    have q3 : decide (0 ≤ c) = false := decide_eq_false h3
    clear hN hr h1 h2
    go_enter Tryz.func33, Tryz.ntmps33
    go_wp2_with fail
    refine (C.out _ _ _ _).mono ?_
    rintro e' w' ⟨rfl, rfl⟩
    rw [q1.out]
    go_wp2_with fail
    refine (C.out _ _ _ _).mono ?_
    rintro e' w' ⟨rfl, rfl⟩
    rw [q2.out]
    go_wp2_with fail
    go_ret
    exact ⟨by rw [e.out]; rfl, (Below.refl _ _).alloc (Nat.le_refl _) _⟩
  obtain ⟨b4, hb4⟩ : ∃ b4, b4 = tr (c ≤ d ∧ d ≤ 1099511627776) := ⟨_, rfl⟩
  have e := Lib.hid (show r = b4 by
    rw [hr, hb4]
    refine tr_congr ⟨?_, ?_⟩
    · rintro ⟨_, _, _, _, _, z1, z2⟩; exact ⟨z1, z2⟩
    · rintro ⟨z1, z2⟩; exact ⟨h1.1, by show a < 4; omega, h2.1, h2.2, h3, z1, z2⟩)
  have q4 := Lib.hid hb4.symm
  clear hN hr h1 h2 hb4
  go_enter Tryz.func33, Tryz.ntmps33
  go_wp2_with fail
  refine (C.out _ _ _ _).mono ?_
  rintro e' w' ⟨rfl, rfl⟩
  rw [q1.out]
  go_wp2_with fail
  refine (C.out _ _ _ _).mono ?_
  rintro e' w' ⟨rfl, rfl⟩
  rw [q2.out]
  go_wp2_with fail
  refine (C.out _ _ _ _).mono ?_
  rintro e' w' ⟨rfl, rfl⟩
  rw [q4.out]
  go_wp2_with fail
  go_ret
  exact ⟨by rw [e.out]; rfl, (Below.refl _ _).alloc (Nat.le_refl _) _⟩
set_option maxHeartbeats 1000000 in
theorem rise_any (OA : Option Addr) (on oc : Nat) (CA : Option Addr) (cn cc : Nat) (a b st en : Int) (R : Option Addr) (m d : Nat) (l : List Int) (w : World) (hl : Wd.Sl w .i64 R m d l) (hst : 0 ≤ st) (hst2 : st ≤ 1099511627776) (hen : en ≤ 1099511627776) :
    Calls Tryz.prog 34 #[.agg #[.int .i64 a, .int .i64 b, .int .i64 st, .int .i64 en, .slice OA on oc, .slice CA cn cc], .slice R m d] w fun e w' => e = .returned (.bool (tr (Rise st en l))) ∧ Below w.heap.size w w' := by
  have hb0 := (Below.refl w.heap.size w).alloc (Nat.le_refl _) (.cells #[.int .i64 a, .int .i64 b, .int .i64 st, .int .i64 en, .slice OA on oc, .slice CA cn cc] 28)
  have x0 := Gb.new w a b st en OA on oc CA cn cc
  have Hm := Lib.hid hl.len
  have hcap := hl.cap
  have hmx := hl.max
  unfold maxLen at hmx
  have Hl := Lib.hid (hl.below hb0)
  obtain ⟨r, hr⟩ : ∃ r, r = tr (Rise st en l) := ⟨_, rfl⟩
  rw [← hr]
  have HR := Lib.hid hr
  have Hb0 := Lib.hid hb0
  obtain ⟨c0, c1, c2, c3, c4, c5⟩ := x0.six
  have hR := fun k (hk : k < l.length) => (show l.drop k = l.getD k 0 :: l.drop (k + 1) by
    rw [List.drop_eq_getElem_cons hk]
    simp [List.getD, List.getElem?_eq_getElem hk])
  have HD := Lib.hid hR
  clear hr hl hb0 x0 hR
  go_enter Tryz.func34, Tryz.ntmps34
  generalize hw0 : w.alloc (.cells #[.int .i64 a, .int .i64 b, .int .i64 st, .int .i64 en, .slice OA on oc, .slice CA cn cc] 28) = w0 at *
  have Hw0 := Lib.hid hw0
  clear hw0
  go_wp2_with fail
  rw [Hw0.out]
  go_loop [5, 12] (fun v i => ∃ (k : Nat) (lo : Int), v = .int .i64 lo ∧ i = .int .i64 k ∧ k ≤ m ∧ 0 ≤ lo ∧ lo ≤ 9000000000000000 ∧ Hid (r = tr (Rise lo en (l.drop k)))) (fun _ i => m - (intOf i).toNat)
  case atStart => exact ⟨0, st, rfl, rfl, Nat.zero_le _, hst, by omega, HR⟩
  case round =>
    obtain ⟨k, lo, rfl, rfl, hk, hlo0, hlo1, HK⟩ := hrel
    by_cases hlt : k < m
    · have hI : (k : Int) < (m : Int) := by omega
      have hkl : k < l.length := by rw [← Hm.out]; exact hlt
      obtain ⟨bb, oo, hA, hlb, hc⟩ := Hl.out.rd k hkl
      subst hA
      have he := HD.out k hkl
      generalize l.getD k 0 = o at *
      have HK2 : Hid (r = tr (lo ≤ o ∧ o < en ∧ Rise (o + 1) en (l.drop (k + 1)))) := by
        have := HK.out
        rw [he] at this
        exact Lib.hid this
      clear he HK hkl
      by_cases q1 : o < lo
      · have hr2 := Lib.hid (show r = false by rw [HK2.out]; exact tr_no fun z => by have := z.1; omega)
        clear HK2
        go_wp2_with fail
        go_ret
        exact ⟨by rw [hr2.out]; rfl, Hb0.out⟩
      have q1' : decide (o < lo) = false := decide_eq_false q1
      by_cases q2 : en ≤ o
      · have hr2 := Lib.hid (show r = false by rw [HK2.out]; exact tr_no fun z => by have := z.2.1; omega)
        clear HK2
        go_wp2_with fail
        go_ret
        exact ⟨by rw [hr2.out]; rfl, Hb0.out⟩
      have q2' : decide (en ≤ o) = false := decide_eq_false q2
      have hr2 := Lib.hid (show r = tr (Rise (o + 1) en (l.drop (k + 1))) by
        rw [HK2.out]
        exact tr_congr ⟨fun z => z.2.2, fun z => ⟨by omega, by omega, z⟩⟩)
      clear HK2
      go_wp2_with fail
      go_round
      case rel => exact ⟨k + 1, o + 1, by first | rfl | go_num, by go_num, by omega, by omega, by omega, hr2⟩
      case measure => simp [intOf]; omega
    · have hI : ¬ (k : Int) < (m : Int) := by omega
      have hr2 := Lib.hid (show r = true by
        rw [HK.out, List.drop_of_length_le (by have := Hm.out; omega)]
        exact tr_yes trivial)
      clear HK
      go_wp2_with fail
      go_ret
      exact ⟨by rw [hr2.out]; rfl, Hb0.out⟩
end Se
end Go.Proofs.YtoibpbnebcoafaaGreat
namespace Go.Proofs.YtoibpbnebcoafaaGreat
set_option maxRecDepth 20000
open Go.RowKit
namespace Se
open Va (Vl)
open Sc (Sch MayS FitS tr tr_yes tr_no tr_iff tr_congr)
open Sx (Sb five)
theorem fit1_any (A : Option Addr) (n c : Nat) (s : Sch) (p : Nat) (R : Option Addr) (m d : Nat) (r : List Vl) (w : World) (hB : Sb w p A n c s.key s.cmp s.del s.sort) (hS : Wd.Cs w A n c s.cols) (hV : Wd.Vs w R m d r) (hn : n ≤ 1000000) :
    Calls Tryz.prog 58 #[.slice R m d, .pointer (some ⟨p, 0, none⟩)] w fun e w' => e = .returned (.bool (!tr (FitS s r))) ∧ Below w.heap.size w w' := by
  obtain ⟨c0, c1, c2, c3, c4⟩ := five hB
  have C := Lib.hid (Sx.Fits_any A n c s R m d r w hS hV hn)
  clear hB hS hV
  go_enter Tryz.func58, Tryz.ntmps58
  go_wp2_with fail
  refine C.out.mono ?_
  rintro e w1 ⟨rfl, hB1⟩
  go_wp2_with fail
  go_ret
  exact ⟨rfl, hB1⟩
/-- Where the first row stands that does not fit; below 0, if there is none. -/
def FirstNo (s : Sch) (l : List (List Vl)) (w : World) (e : Ending) (w' : World) : Prop :=
  ∃ z : Int, e = .returned (.int .i64 z) ∧ decide (0 ≤ z) = (!tr (∀ r ∈ l, FitS s r)) ∧ Below w.heap.size w w'
theorem index_any (A : Option Addr) (n c : Nat) (s : Sch) (p : Nat) (R : Option Addr) (m d : Nat) (l : List (List Vl)) (w : World) (hB : Sb w p A n c s.key s.cmp s.del s.sort) (hS : Wd.Cs w A n c s.cols) (hL : Wd.Ls w R m d l) (hn : n ≤ 1000000) :
    Calls Tryz.prog 83 #[.slice R m d, .func (.func 58) #[] #[.pointer (some ⟨p, 0, none⟩)]] w (FirstNo s l w) := by
  have Hl := Lib.hid hL.len
  have HL := Lib.hid hL
  have HS := Lib.hid hS
  have HB := Lib.hid hB
  have hplt := hB.lt
  have hcap := hL.cap
  have hmx := hL.max
  unfold maxLen at hmx
  clear hB hS hL
  go_enter Tryz.func83, Tryz.ntmps83
  go_wp2
  go_loopw [5, 8] (fun _ i wr => ∃ k : Nat, i = .int .i64 k ∧ k ≤ m ∧ Hid (∀ j, j < k → FitS s (l.getD j [])) ∧ Below w.heap.size w wr) (fun _ i _ => m - (intOf i).toNat)
  case atStart => exact ⟨0, rfl, Nat.zero_le _, Lib.hid (fun j hj => by omega), Below.refl _ _⟩
  case round =>
    obtain ⟨k, rfl, hk, hf, hBw⟩ := hrel
    by_cases hlt : k < m
    · have hI : (k : Int) < (m : Int) := by omega
      have hkl : k < l.length := by rw [← Hl.out]; exact hlt
      obtain ⟨b, o, A', n', c', hA, hbB, c0, hV⟩ := (HL.out.below hBw).at_ k hkl
      subst hA
      have C := Lib.hid (fit1_any A n c s p A' n' c' _ wr (HB.out.below hplt hBw) (HS.out.below hBw) hV hn)
      have Hkl := Lib.hid hkl
      clear hV hkl
      by_cases he : FitS s (l.getD k [])
      · have q1 := Lib.hid (tr_yes he)
        have hf2 := Lib.hid (show ∀ j, j < k + 1 → FitS s (l.getD j []) from fun j hj => by
          by_cases z : j = k
          · rw [z]; exact he
          · exact hf.out j (by omega))
        clear he hf
        go_wp2_with fail
        refine C.out.mono ?_
        rintro e w1 ⟨rfl, hB1⟩
        rw [q1.out]
        have hB' := hBw.trans (hB1.mono hBw.size)
        clear hB1 C q1
        go_wp2_with fail
        go_roundw
        case rel => exact ⟨k + 1, by go_num, by omega, hf2, hB'⟩
        case measure => simp [intOf]; omega
      · have q1 := Lib.hid (tr_no he)
        have q2 := Lib.hid (show tr (∀ r ∈ l, FitS s r) = false from tr_no fun z => he (z _ (by
          rw [List.getD_eq_getElem?_getD, List.getElem?_eq_getElem Hkl.out]
          exact List.getElem_mem _)))
        clear he hf
        go_wp2_with fail
        refine C.out.mono ?_
        rintro e w1 ⟨rfl, hB1⟩
        rw [q1.out]
        have hB' := hBw.trans (hB1.mono hBw.size)
        clear hB1 C q1
        go_wp2_with fail
        go_ret
        exact ⟨_, rfl, by rw [q2.out]; simp, hB'⟩
    · have hI : ¬ (k : Int) < (m : Int) := by omega
      have q2 := Lib.hid (show tr (∀ r ∈ l, FitS s r) = true from tr_yes fun r hr => by
        obtain ⟨j, hj, rfl⟩ := List.getElem_of_mem hr
        have := hf.out j (by have := Hl.out; omega)
        simpa [List.getD, List.getElem?_eq_getElem hj] using this)
      clear hf
      go_wp2_with fail
      go_ret
      exact ⟨_, rfl, by rw [q2.out]; rfl, hBw⟩
theorem contains_any (A : Option Addr) (n c : Nat) (s : Sch) (p : Nat) (R : Option Addr) (m d : Nat) (l : List (List Vl)) (w : World) (hB : Sb w p A n c s.key s.cmp s.del s.sort) (hS : Wd.Cs w A n c s.cols) (hL : Wd.Ls w R m d l) (hn : n ≤ 1000000) :
    Calls Tryz.prog 57 #[.slice R m d, .func (.func 58) #[] #[.pointer (some ⟨p, 0, none⟩)]] w fun e w' => e = .returned (.bool (!tr (∀ r ∈ l, FitS s r))) ∧ Below w.heap.size w w' := by
  have C := Lib.hid (index_any A n c s p R m d l w hB hS hL hn)
  clear hB hS hL
  go_enter Tryz.func57, Tryz.ntmps57
  go_wp2_with fail
  refine C.out.mono ?_
  rintro e w1 ⟨z, rfl, hz, hB1⟩
  have Hz := Lib.hid hz
  clear hz C
  go_wp2_with fail
  go_ret
  exact ⟨by rw [← Hz.out]; rfl, hB1⟩
set_option maxHeartbeats 1000000 in
theorem fit_any (A : Option Addr) (n c : Nat) (s : Sch) (R : Option Addr) (m d : Nat) (l : List (List Vl)) (w : World) (hS : Wd.Cs w A n c s.cols) (hL : Wd.Ls w R m d l) (hn : n ≤ 1000000) :
    Calls Tryz.prog 35 #[.agg #[.slice A n c, .int .i64 s.key, .int .i64 s.cmp, .int .i64 s.del, .int .i64 s.sort], .slice R m d] w fun e w' => e = .returned (.bool (tr (Fit s l))) ∧ Below w.heap.size w w' := by
  have hb0 := (Below.refl w.heap.size w).alloc (Nat.le_refl _) (.cells #[.slice A n c, .int .i64 s.key, .int .i64 s.cmp, .int .i64 s.del, .int .i64 s.sort] 24)
  have s0 : Sb (w.alloc (.cells #[.slice A n c, .int .i64 s.key, .int .i64 s.cmp, .int .i64 s.del, .int .i64 s.sort] 24)) w.heap.size A n c s.key s.cmp s.del s.sort := Wd.Bx.new w _ _
  have Cm := Lib.hid (Sx.May_any A n c s _ (hS.below hb0) hn)
  have HS := Lib.hid (hS.below hb0)
  have HL := Lib.hid (hL.below hb0)
  have HB := Lib.hid s0
  have Hb0 := Lib.hid hb0
  obtain ⟨c0, c1, c2, c3, c4⟩ := five s0
  have hplt := s0.lt
  obtain ⟨r, hr⟩ : ∃ r, r = tr (Fit s l) := ⟨_, rfl⟩
  rw [← hr]
  have Hr := Lib.hid hr
  clear hr hb0 s0 hS hL
  go_enter Tryz.func35, Tryz.ntmps35
  by_cases hm : MayS s
  · have q1 := Lib.hid (tr_yes hm)
    have q2 := Lib.hid (show tr (∀ r ∈ l, FitS s r) = r by rw [Hr.out]; exact tr_congr ⟨fun z => ⟨hm, z⟩, fun z => z.2⟩)
    clear hm
    go_wp2_with fail
    refine Cm.out.mono ?_
    rintro e w1 ⟨rfl, hB1⟩
    rw [q1.out]
    have C := Lib.hid (contains_any A n c s w.heap.size R m d l w1 (HB.out.below hplt hB1) (HS.out.below hB1) (HL.out.below hB1) hn)
    rw [q2.out] at C
    have Hb1 := Lib.hid (Hb0.out.trans (hB1.mono Hb0.out.size))
    clear hB1 q1 q2 c0 c1 c2 c3 c4
    go_wp2_with fail
    refine C.out.mono ?_
    rintro e w2 ⟨rfl, hB2⟩
    have Hb2 := Lib.hid (Hb1.out.trans (hB2.mono Hb1.out.size))
    clear hB2
    go_wp2_with fail
    go_ret
    exact ⟨by simp, Hb2.out⟩
  · have q1 := Lib.hid (tr_no hm)
    have q2 := Lib.hid (show r = false by rw [Hr.out]; exact tr_no fun z => hm z.1)
    clear hm
    go_wp2_with fail
    refine Cm.out.mono ?_
    rintro e w1 ⟨rfl, hB1⟩
    rw [q1.out]
    have Hb1 := Lib.hid (Hb0.out.trans (hB1.mono Hb0.out.size))
    clear hB1 q1
    go_wp2_with fail
    go_ret
    exact ⟨by rw [q2.out]; rfl, Hb1.out⟩
end Se
end Go.Proofs.YtoibpbnebcoafaaGreat
namespace Go.Proofs.YtoibpbnebcoafaaGreat
set_option maxRecDepth 20000
open Go.RowKit Go.Sort
namespace Ssm
/-- The numbers, as a machine has them. -/
def ns (xs : List Nat) : List Int := xs.map fun (n : Nat) => (n : Int)
theorem ns_len (xs : List Nat) : (ns xs).length = xs.length := by simp [ns]
theorem ns_get (xs : List Nat) (j : Nat) : (ns xs).getD j 0 = ((xs.getD j 0 : Nat) : Int) := by
  simp only [ns, List.getD, List.getElem?_map]
  cases xs[j]? <;> rfl
theorem ns_set (xs : List Nat) (j x : Nat) : (ns xs).set j (x : Int) = ns (xs.set j x) := by simp [ns, List.map_set]
/-- A world of the sort: row g holds xs (numbers below N), and nothing else of w0 has turned. -/
structure Sw (w0 : World) (g N : Nat) (xs : List Nat) (W : World) : Prop where
  row : Wd.Row W g .i64 3 (ns xs)
  mv : Wd.Mv (fun x => x = g) w0 W
  lt : ∀ x ∈ xs, x < N
/-- What a comparison does: in every world of the sort it answers cf; it may draw, and lay blocks. -/
structure Cmp (f : Nat) (cap : Array Value) (cf : Nat → Nat → Int) (g N : Nat) (w0 : World) : Prop where
  goes : ∀ args w, (callFunc f args).run Tryz.prog w = .ok (.enter f args) w
  call : ∀ W, Wd.Mv (fun x => x = g) w0 W → ∀ x y : Nat, x < N → y < N → Calls Tryz.prog f (#[.int .i64 (x : Int), .int .i64 (y : Int)] ++ cap) W fun e W' => e = .returned (.int .i64 (cf x y)) ∧ ∃ q os, W' = grow (W.drewN q) os
section
variable {w0 W : World} {g N : Nat} {xs : List Nat}
theorem heap_grown {q : Nat} {os : Array Obj} {k : Nat} (h : k < W.heap.size) : (grow (W.drewN q) os).heap[k]? = W.heap[k]? := heap_grow_old (W.drewN q) os h
theorem mv_grown {G : Nat → Prop} (h : Wd.Mv G w0 W) (q : Nat) (os : Array Obj) : Wd.Mv G w0 (grow (W.drewN q) os) :=
  ⟨h.os, h.tape, h.output, by rw [size_grow]; exact Nat.le_trans h.size (Nat.le_add_right _ _), fun k hk hn => (heap_grown (Nat.lt_of_lt_of_le hk h.size)).trans (h.keep k hk hn)⟩
theorem Sw.blk (h : Sw w0 g N xs W) : g < W.heap.size := h.row.lt
theorem Sw.grown (h : Sw w0 g N xs W) (q : Nat) (os : Array Obj) : Sw w0 g N xs (grow (W.drewN q) os) :=
  ⟨by unfold Wd.Row; rw [heap_grown h.blk]; exact h.row, mv_grown h.mv q os, h.lt⟩
theorem Sw.drew (h : Sw w0 g N xs W) : Sw w0 g N xs W.drew := ⟨h.row.drew, h.mv.drew, h.lt⟩
theorem Sw.cell (h : Sw w0 g N xs W) (j : Nat) (hj : j < xs.length) : W.cell? ⟨g, j, none⟩ = some (.int .i64 (xs.getD j 0 : Nat)) := by
  rw [h.row.cell j (by rw [ns_len]; exact hj), ns_get]
theorem Sw.cells (h : Sw w0 g N xs W) (j : Nat) (hj : j < xs.length) (q : Nat) (os : Array Obj) : (grow (W.drewN q) os).cell? ⟨g, j, none⟩ = some (.int .i64 (xs.getD j 0 : Nat)) := (h.grown q os).cell j hj
theorem Sw.free (h : Sw w0 g N xs W) (j : Nat) : W.frozen? ⟨g, j, none⟩ = false := h.row.free j
theorem Sw.bd (h : Sw w0 g N xs W) (j : Nat) (hj : j < xs.length) : xs.getD j 0 < N := h.lt _ (by
  rw [List.getD_eq_getElem?_getD, List.getElem?_eq_getElem hj]
  exact List.getElem_mem hj)
theorem Sw.set (h : Sw w0 g N xs W) (j x : Nat) (hx : x < N) : Sw w0 g N (xs.set j x) (W.setCell ⟨g, j, none⟩ (.int .i64 (x : Int))) :=
  ⟨by rw [← ns_set]; exact h.row.set j _, h.mv.set rfl _, fun y hy => by
    rcases List.mem_or_eq_of_mem_set hy with q | q
    · exact h.lt y q
    · rw [q]; exact hx⟩
/-- An exchange. -/
theorem Sw.swapped (h : Sw w0 g N xs W) (i j : Nat) (hi : i < xs.length) (hj : j < xs.length) :
    Sw w0 g N (swp xs i j) ((W.setCell ⟨g, i, none⟩ (.int .i64 (xs.getD j 0 : Nat))).setCell ⟨g, j, none⟩ (.int .i64 (xs.getD i 0 : Nat))).drew :=
  ((h.set i _ (h.bd j hj)).set j _ (h.bd i hi)).drew
/-- Behind the first store the second place still holds something. -/
theorem Sw.c2 (h : Sw w0 g N xs W) (i j : Nat) (hj : j < xs.length) (hij : i ≠ j) (v : Value) : (W.setCell ⟨g, i, none⟩ v).cell? ⟨g, j, none⟩ = some (.int .i64 (xs.getD j 0 : Nat)) := by
  rw [World.cell?_setCell_other _ _ _ _ (by intro e; simp only [Addr.mk.injEq] at e; omega)]
  exact h.cell j hj
/-- What a comparison answers in a world of the sort. -/
theorem Sw.cmp {f : Nat} {cap : Array Value} {cf : Nat → Nat → Int} (h : Sw w0 g N xs W) (C : Cmp f cap cf g N w0) {x y : Nat} (hx : x < N) (hy : y < N) (q : Nat) (os : Array Obj) :
    Calls Tryz.prog f (#[.int .i64 (x : Int), .int .i64 (y : Int)] ++ cap) (grow (W.drewN q) os) fun e W' => e = .returned (.int .i64 (cf x y)) ∧ ∃ q' os', W' = grow ((grow (W.drewN q) os).drewN q') os' :=
  C.call _ (mv_grown h.mv q os) x y hx hy
theorem Sw.then {w1 : World} {ys : List Nat} (h : Sw w0 g N xs W) (k : Sw W g N ys w1) : Sw w0 g N ys w1 := ⟨k.row, h.mv.then k.mv, k.lt⟩
theorem Cmp.at_ {f : Nat} {cap : Array Value} {cf : Nat → Nat → Int} (C : Cmp f cap cf g N w0) (h : Wd.Mv (fun x => x = g) w0 W) : Cmp f cap cf g N W := ⟨C.goes, fun W' m x y hx hy => C.call W' (h.then m) x y hx hy⟩
end
end Ssm
end Go.Proofs.YtoibpbnebcoafaaGreat
