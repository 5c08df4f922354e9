/- Package seal: within, mayHead, rise, fit. Sets of numbers as lists that rise, in plain words. No program, no memory. A column's numbers and its rows as sets: plain facts. No walk. What the reference of layer 6's Same does. What the reference of layer 6 does: text, Order. -/
import Derived.Lib.Hide
import Derived.BigRegion
import Derived.BigQuiet
import Derived.Deep.QuietTactic
import Derived.WalkLawsBesides
import Derived.Test.YtaoeipehpakngaaGreatDoorPa07
import Derived.Test.YtaoeipehpakngaaGreatDoorPa10
import Derived.Test.YtaoeipehpakngaaGreatDoorPa11
import Derived.Test.YtaoeipehpakngaaGreatDoorPa04
import Derived.Test.YtaoeipehpakngaaGreatDoorPa03
namespace Go.Proofs.YtaoeipehpakngaaGreatDoor
set_option maxRecDepth 20000
open Go.RowKit
namespace Se
open Va (Vl)
open Sc (Sch MayS FitS tr tr_yes tr_no tr_iff tr_congr)
open Sx (Sb five)
open Wd (Cr)
theorem within_any (n lo hi : Int) (w : World) :
    Calls Tryz.prog 83 #[.int .i64 n, .int .i64 lo, .int .i64 hi] w fun e w' => e = .returned (.bool (tr (lo ≤ n ∧ n ≤ hi))) ∧ w' = w := by
  by_cases h1 : lo ≤ n
  · by_cases h2 : n ≤ hi
    · rw [tr_yes ⟨h1, h2⟩]
      go_enter Tryz.func83, Tryz.ntmps83
      go_wp2_with fail
      go_ret
      exact ⟨rfl, rfl⟩
    · rw [tr_no fun q => h2 q.2]
      go_enter Tryz.func83, Tryz.ntmps83
      go_wp2_with fail
      go_ret
      exact ⟨rfl, rfl⟩
  · rw [tr_no fun q => h1 q.1]
    go_enter Tryz.func83, Tryz.ntmps83
    go_wp2_with fail
    go_ret
    exact ⟨rfl, rfl⟩
set_option maxHeartbeats 1000000 in
theorem head_any (OA : Option Addr) (on oc : Nat) (CA : Option Addr) (cn cc : Nat) (x : Seg) (w : World) :
    Calls Tryz.prog 42 #[.agg #[.int .i64 x.part, .int .i64 x.id, .int .i64 x.st, .int .i64 x.en, .slice OA on oc, .slice CA cn cc]] w fun e w' => e = .returned (.bool (tr (Head x))) ∧ Below w.heap.size w w' := by
  have C := Lib.hid within_any
  obtain ⟨a, b, c, d, of, cl⟩ := x
  obtain ⟨r, hr⟩ : ∃ r, r = tr (Head ⟨a, b, c, d, of, cl⟩) := ⟨_, rfl⟩
  rw [← hr]
  have hN : ¬ Head ⟨a, b, c, d, of, cl⟩ → r = false := fun q => by rw [hr]; exact tr_no q
  by_cases h1 : 0 ≤ a ∧ a ≤ 3
  case neg =>
    have e := Lib.hid (hN fun q => h1 ⟨q.1, by have : a < 4 := q.2.1; omega⟩)
    have q1 := Lib.hid (tr_no h1)
    clear hN hr h1
    go_enter Tryz.func42, Tryz.ntmps42
    go_wp2_with fail
    refine (C.out _ _ _ _).mono ?_
    rintro e' w' ⟨rfl, rfl⟩
    rw [q1.out]
    go_wp2_with fail
    go_ret
    exact ⟨by rw [e.out]; rfl, (Below.refl _ _).alloc (Nat.le_refl _) _⟩
  have q1 := Lib.hid (tr_yes h1)
  by_cases h2 : 1 ≤ b ∧ b ≤ 1073741824
  case neg =>
    have e := Lib.hid (hN fun q => h2 ⟨q.2.2.1, q.2.2.2.1⟩)
    have q2 := Lib.hid (tr_no h2)
    clear hN hr h1 h2
    go_enter Tryz.func42, Tryz.ntmps42
    go_wp2_with fail
    refine (C.out _ _ _ _).mono ?_
    rintro e' w' ⟨rfl, rfl⟩
    rw [q1.out]
    go_wp2_with fail
    refine (C.out _ _ _ _).mono ?_
    rintro e' w' ⟨rfl, rfl⟩
    rw [q2.out]
    go_wp2_with fail
    go_ret
    exact ⟨by rw [e.out]; rfl, (Below.refl _ _).alloc (Nat.le_refl _) _⟩
  have q2 := Lib.hid (tr_yes h2)
  by_cases h3 : 0 ≤ c
  case neg =>
    have e := Lib.hid (hN fun q => h3 q.2.2.2.2.1)
    have q3 : decide (0 ≤ c) = false := decide_eq_false h3
    clear hN hr h1 h2
    go_enter Tryz.func42, Tryz.ntmps42
    go_wp2_with fail
    refine (C.out _ _ _ _).mono ?_
    rintro e' w' ⟨rfl, rfl⟩
    rw [q1.out]
    go_wp2_with fail
    refine (C.out _ _ _ _).mono ?_
    rintro e' w' ⟨rfl, rfl⟩
    rw [q2.out]
    go_wp2_with fail
    go_ret
    exact ⟨by rw [e.out]; rfl, (Below.refl _ _).alloc (Nat.le_refl _) _⟩
  obtain ⟨b4, hb4⟩ : ∃ b4, b4 = tr (c ≤ d ∧ d ≤ 1099511627776) := ⟨_, rfl⟩
  have e := Lib.hid (show r = b4 by
    rw [hr, hb4]
    refine tr_congr ⟨?_, ?_⟩
    · rintro ⟨_, _, _, _, _, z1, z2⟩; exact ⟨z1, z2⟩
    · rintro ⟨z1, z2⟩; exact ⟨h1.1, by show a < 4; omega, h2.1, h2.2, h3, z1, z2⟩)
  have q4 := Lib.hid hb4.symm
  clear hN hr h1 h2 hb4
  go_enter Tryz.func42, Tryz.ntmps42
  go_wp2_with fail
  refine (C.out _ _ _ _).mono ?_
  rintro e' w' ⟨rfl, rfl⟩
  rw [q1.out]
  go_wp2_with fail
  refine (C.out _ _ _ _).mono ?_
  rintro e' w' ⟨rfl, rfl⟩
  rw [q2.out]
  go_wp2_with fail
  refine (C.out _ _ _ _).mono ?_
  rintro e' w' ⟨rfl, rfl⟩
  rw [q4.out]
  go_wp2_with fail
  go_ret
  exact ⟨by rw [e.out]; rfl, (Below.refl _ _).alloc (Nat.le_refl _) _⟩
set_option maxHeartbeats 1000000 in
theorem rise_any (OA : Option Addr) (on oc : Nat) (CA : Option Addr) (cn cc : Nat) (a b st en : Int) (R : Option Addr) (m d : Nat) (l : List Int) (w : World) (hl : Wd.Sl w .i64 R m d l) (hst : 0 ≤ st) (hst2 : st ≤ 1099511627776) (hen : en ≤ 1099511627776) :
    Calls Tryz.prog 85 #[.agg #[.int .i64 a, .int .i64 b, .int .i64 st, .int .i64 en, .slice OA on oc, .slice CA cn cc], .slice R m d] w fun e w' => e = .returned (.bool (tr (Rise st en l))) ∧ Below w.heap.size w w' := by
  have hb0 := (Below.refl w.heap.size w).alloc (Nat.le_refl _) (.cells #[.int .i64 a, .int .i64 b, .int .i64 st, .int .i64 en, .slice OA on oc, .slice CA cn cc] 28)
  have x0 := Gb.new w a b st en OA on oc CA cn cc
  have Hm := Lib.hid hl.len
  have hcap := hl.cap
  have hmx := hl.max
  unfold maxLen at hmx
  have Hl := Lib.hid (hl.below hb0)
  obtain ⟨r, hr⟩ : ∃ r, r = tr (Rise st en l) := ⟨_, rfl⟩
  rw [← hr]
  have HR := Lib.hid hr
  have Hb0 := Lib.hid hb0
  obtain ⟨c0, c1, c2, c3, c4, c5⟩ := x0.six
  have hR := fun k (hk : k < l.length) => (show l.drop k = l.getD k 0 :: l.drop (k + 1) by
    rw [List.drop_eq_getElem_cons hk]
    simp [List.getD, List.getElem?_eq_getElem hk])
  have HD := Lib.hid hR
  clear hr hl hb0 x0 hR
  go_enter Tryz.func85, Tryz.ntmps85
  generalize hw0 : w.alloc (.cells #[.int .i64 a, .int .i64 b, .int .i64 st, .int .i64 en, .slice OA on oc, .slice CA cn cc] 28) = w0 at *
  have Hw0 := Lib.hid hw0
  clear hw0
  go_wp2_with fail
  rw [Hw0.out]
  go_loop [5, 12] (fun v i => ∃ (k : Nat) (lo : Int), v = .int .i64 lo ∧ i = .int .i64 k ∧ k ≤ m ∧ 0 ≤ lo ∧ lo ≤ 9000000000000000 ∧ Hid (r = tr (Rise lo en (l.drop k)))) (fun _ i => m - (intOf i).toNat)
  case atStart => exact ⟨0, st, rfl, rfl, Nat.zero_le _, hst, by omega, HR⟩
  case round =>
    obtain ⟨k, lo, rfl, rfl, hk, hlo0, hlo1, HK⟩ := hrel
    by_cases hlt : k < m
    · have hI : (k : Int) < (m : Int) := by omega
      have hkl : k < l.length := by rw [← Hm.out]; exact hlt
      obtain ⟨bb, oo, hA, hlb, hc⟩ := Hl.out.rd k hkl
      subst hA
      have he := HD.out k hkl
      generalize l.getD k 0 = o at *
      have HK2 : Hid (r = tr (lo ≤ o ∧ o < en ∧ Rise (o + 1) en (l.drop (k + 1)))) := by
        have := HK.out
        rw [he] at this
        exact Lib.hid this
      clear he HK hkl
      by_cases q1 : o < lo
      · have hr2 := Lib.hid (show r = false by rw [HK2.out]; exact tr_no fun z => by have := z.1; omega)
        clear HK2
        go_wp2_with fail
        go_ret
        exact ⟨by rw [hr2.out]; rfl, Hb0.out⟩
      have q1' : decide (o < lo) = false := decide_eq_false q1
      by_cases q2 : en ≤ o
      · have hr2 := Lib.hid (show r = false by rw [HK2.out]; exact tr_no fun z => by have := z.2.1; omega)
        clear HK2
        go_wp2_with fail
        go_ret
        exact ⟨by rw [hr2.out]; rfl, Hb0.out⟩
      have q2' : decide (en ≤ o) = false := decide_eq_false q2
      have hr2 := Lib.hid (show r = tr (Rise (o + 1) en (l.drop (k + 1))) by
        rw [HK2.out]
        exact tr_congr ⟨fun z => z.2.2, fun z => ⟨by omega, by omega, z⟩⟩)
      clear HK2
      go_wp2_with fail
      go_round
      case rel => exact ⟨k + 1, o + 1, by first | rfl | go_num, by go_num, by omega, by omega, by omega, hr2⟩
      case measure => simp [intOf]; omega
    · have hI : ¬ (k : Int) < (m : Int) := by omega
      have hr2 := Lib.hid (show r = true by
        rw [HK.out, List.drop_of_length_le (by have := Hm.out; omega)]
        exact tr_yes trivial)
      clear HK
      go_wp2_with fail
      go_ret
      exact ⟨by rw [hr2.out]; rfl, Hb0.out⟩
end Se
end Go.Proofs.YtaoeipehpakngaaGreatDoor
namespace Go.Proofs.YtaoeipehpakngaaGreatDoor
set_option maxRecDepth 20000
namespace Bs
def adm (i : Int) : Prop := 0 ≤ i ∧ i < 65536
instance : DecidablePred adm := fun i => inferInstanceAs (Decidable (0 ≤ i ∧ i < 65536))
def Ok (X : List Int) : Prop := X.Pairwise (fun a b => a < b) ∧ ∀ x ∈ X, adm x
theorem ok_nil : Ok [] := ⟨List.Pairwise.nil, fun x hx => by simp at hx⟩
theorem ok_tail {a : Int} {X : List Int} (h : Ok (a :: X)) : Ok X := ⟨(List.pairwise_cons.1 h.1).2, fun x hx => h.2 x (by simp [hx])⟩
theorem ok_head {a : Int} {X : List Int} (h : Ok (a :: X)) : ∀ x ∈ X, a < x := (List.pairwise_cons.1 h.1).1
theorem ok_ext : ∀ {X Y : List Int}, Ok X → Ok Y → (∀ x, x ∈ X ↔ x ∈ Y) → X = Y
  | [], [], _, _, _ => rfl
  | [], y :: Y, _, _, h => absurd ((h y).2 (by simp)) (by simp)
  | x :: X, [], _, _, h => absurd ((h x).1 (by simp)) (by simp)
  | x :: X, y :: Y, hx, hy, h => by
    have e : x = y := by
      rcases List.mem_cons.1 ((h x).1 (by simp)) with q | q
      · exact q
      · rcases List.mem_cons.1 ((h y).2 (by simp)) with p | p
        · exact p.symm
        · have := ok_head hx y p
          have := ok_head hy x q
          omega
    subst e
    rw [ok_ext (ok_tail hx) (ok_tail hy) fun z => by
      have hz := h z
      rw [List.mem_cons, List.mem_cons] at hz
      constructor
      · intro q
        rcases hz.1 (.inr q) with p | p
        · have := ok_head hx z q; omega
        · exact p
      · intro q
        rcases hz.2 (.inr q) with p | p
        · have := ok_head hy z q; omega
        · exact p]
def ins (i : Int) : List Int → List Int
  | [] => [i]
  | a :: l => if a < i then a :: ins i l else i :: a :: l
def withL (X : List Int) (i : Int) : List Int := if adm i ∧ i ∉ X then ins i X else X
def ofL (l : List Int) : List Int := l.foldl withL []
def cut (n : Int) : Nat := (min n 65536).toNat
def uptoL (n : Int) : List Int := (List.range (cut n)).map fun (k : Nat) => (k : Int)
theorem mem_ins (i x : Int) : ∀ X : List Int, x ∈ ins i X ↔ x = i ∨ x ∈ X
  | [] => by simp [ins]
  | a :: X => by
    unfold ins
    split
    · rw [List.mem_cons, mem_ins i x X, List.mem_cons]
      constructor
      · rintro (q | q | q)
        · exact .inr (.inl q)
        · exact .inl q
        · exact .inr (.inr q)
      · rintro (q | q | q)
        · exact .inr (.inl q)
        · exact .inl q
        · exact .inr (.inr q)
    · rw [List.mem_cons]
theorem ins_ok {i : Int} (hi : adm i) : ∀ {X : List Int}, Ok X → i ∉ X → Ok (ins i X)
  | [], _, _ => ⟨by simp [ins], fun x hx => by rw [show x = i by simpa [ins] using hx]; exact hi⟩
  | a :: X, h, hn => by
    have hm : ∀ x ∈ ins i (a :: X), adm x := fun x hx => by
      rcases (mem_ins i x _).1 hx with q | q
      · rw [q]; exact hi
      · exact h.2 x q
    refine ⟨?_, hm⟩
    unfold ins
    split
    · rename_i q
      refine List.pairwise_cons.2 ⟨fun x hx => ?_, (ins_ok hi (ok_tail h) (fun p => hn (by simp [p]))).1⟩
      rcases (mem_ins i x X).1 hx with p | p
      · omega
      · exact ok_head h x p
    · rename_i q
      have hne : a ≠ i := fun e => hn (by simp [e])
      refine List.pairwise_cons.2 ⟨fun x hx => ?_, h.1⟩
      rcases List.mem_cons.1 hx with p | p
      · omega
      · have := ok_head h x p; omega
theorem with_ok {X : List Int} (h : Ok X) (i : Int) : Ok (withL X i) := by
  unfold withL
  split
  · rename_i q; exact ins_ok q.1 h q.2
  · exact h
theorem mem_with (X : List Int) (i x : Int) : x ∈ withL X i ↔ x ∈ X ∨ (x = i ∧ adm i) := by
  unfold withL
  by_cases q : adm i ∧ i ∉ X
  · rw [if_pos q, mem_ins]
    exact ⟨fun h => h.elim (fun e => .inr ⟨e, q.1⟩) .inl, fun h => h.elim .inr fun e => .inl e.1⟩
  · rw [if_neg q]
    refine ⟨.inl, fun h => h.elim id fun e => ?_⟩
    rcases Classical.em (i ∈ X) with p | p
    · rw [e.1]; exact p
    · exact absurd ⟨e.2, p⟩ q
theorem fold_ok : ∀ (l X : List Int), Ok X → Ok (l.foldl withL X)
  | [], _, h => h
  | i :: l, _, h => fold_ok l _ (with_ok h i)
theorem mem_fold : ∀ (l : List Int) (X : List Int) (x : Int), x ∈ l.foldl withL X ↔ x ∈ X ∨ (x ∈ l ∧ adm x)
  | [], _, _ => by simp
  | i :: l, X, x => by
    rw [List.foldl_cons, mem_fold l, mem_with, List.mem_cons]
    constructor
    · rintro ((q | ⟨rfl, q⟩) | ⟨q, p⟩)
      · exact .inl q
      · exact .inr ⟨.inl rfl, q⟩
      · exact .inr ⟨.inr q, p⟩
    · rintro (q | ⟨rfl | q, p⟩)
      · exact .inl (.inl q)
      · exact .inl (.inr ⟨rfl, p⟩)
      · exact .inr ⟨q, p⟩
theorem of_ok (l : List Int) : Ok (ofL l) := fold_ok l [] ok_nil
theorem mem_of (l : List Int) (x : Int) : x ∈ ofL l ↔ x ∈ l ∧ adm x := by
  unfold ofL
  rw [mem_fold]
  simp
theorem mem_upto (n x : Int) : x ∈ uptoL n ↔ 0 ≤ x ∧ x < n ∧ x < 65536 := by
  unfold uptoL cut
  rw [List.mem_map]
  constructor
  · rintro ⟨k, hk, rfl⟩
    rw [List.mem_range] at hk
    omega
  · intro h
    exact ⟨x.toNat, by rw [List.mem_range]; omega, by omega⟩
theorem upto_ok (n : Int) : Ok (uptoL n) := by
  refine ⟨?_, fun x hx => ?_⟩
  · unfold uptoL
    rw [List.pairwise_map]
    exact List.Pairwise.imp (fun {a b} h => by omega) List.pairwise_lt_range
  · have := (mem_upto n x).1 hx
    exact ⟨this.1, this.2.2⟩
end Bs
namespace Co
open Va (Vl May ord null)
open Sc (tr tr_yes tr_no tr_iff)
open Dc
theorem all_set {l : List Int} {k : Nat} (hk : k ≤ 65536) (h : ∀ x ∈ l, 0 ≤ x ∧ x < 65536) : Bs.ofL l = Bs.uptoL (k : Int) ↔ (∀ x ∈ l, x < (k : Int)) ∧ ∀ j : Nat, j < k → (j : Int) ∈ l := by
  constructor
  · intro e
    refine ⟨fun x hx => ?_, fun j hj => ?_⟩
    · have h1 : x ∈ Bs.ofL l := (Bs.mem_of l x).2 ⟨hx, h x hx⟩
      rw [e] at h1
      exact ((Bs.mem_upto _ _).1 h1).2.1
    · have h1 : (j : Int) ∈ Bs.uptoL (k : Int) := (Bs.mem_upto _ _).2 ⟨by omega, by omega, by omega⟩
      rw [← e] at h1
      exact ((Bs.mem_of l _).1 h1).1
  · rintro ⟨h1, h2⟩
    refine Bs.ok_ext (Bs.of_ok l) (Bs.upto_ok _) fun x => ?_
    rw [Bs.mem_of, Bs.mem_upto]
    constructor
    · rintro ⟨a, b⟩
      exact ⟨b.1, h1 x a, b.2⟩
    · rintro ⟨a, b, c⟩
      have := h2 x.toNat (by omega)
      rw [Int.toNat_of_nonneg a] at this
      exact ⟨this, a, c⟩
theorem un_lt (C : Col) (hd : C.dict.length ≤ 1000) : ∀ x ∈ un C, 0 ≤ x ∧ x < 65536 := by
  intro x hx
  unfold un Bc.unL at hx
  split at hx
  · have h1 := Bt.toD_inR _ _ _ x hx
    have h2 : wdt C.dict ≤ 10 := (Bc.wid_le 10 ((C.dict.length : Int) - 1)).2 (by simp; omega)
    rw [Int.toNat_natCast] at h1
    have h3 := Bt.pup h2
    rw [show (2 : Int) ^ 10 = 1024 by decide] at h3
    exact ⟨h1.1, by omega⟩
  · cases hx
theorem valid_iff {C : Col} (hd : C.dict.length ≤ 1000) : Valid C ↔ Ris C.dict ∧ Bc.unE C.ids C.n (wdt C.dict) = 0 ∧ Bs.ofL (un C) = Bs.uptoL (C.dict.length : Int) := by
  rw [all_set (by omega) (un_lt C hd)]
  constructor
  · intro h
    exact ⟨h.ris, h.un0, h.lt, h.all⟩
  · rintro ⟨h1, h2, h3, h4⟩
    obtain ⟨N, W, hn, _, _, hN, _⟩ := Bc.unE_inv h2
    exact ⟨by omega, by omega, h1, h2, h3, h4⟩
theorem nums_4096 (C : Col) : (nums C).length ≤ 4096 := by
  by_cases h : Valid C
  · have h1 := nums_len h
    have h2 := h.n1
    omega
  · rw [nums_no h]
    simp
theorem values_no {C : Col} (h : ¬ Valid C) : values C = [] := by
  unfold values
  rw [nums_no h]
  rfl
end Co
end Go.Proofs.YtaoeipehpakngaaGreatDoor
namespace Go.Proofs.YtaoeipehpakngaaGreatDoor
set_option maxRecDepth 20000
open Go.RowKit
namespace Sx
open Sc (tr tr_yes tr_no)
open Va (Vl May)
theorem eq_get {vs us : List Vl} (hl : vs.length = us.length) (h : ∀ i, i < vs.length → vs.getD i default = us.getD i default) : vs = us := by
  apply List.ext_getElem hl
  intro i h1 h2
  have := h i h1
  simpa [List.getD, List.getElem?_eq_getElem h1, List.getElem?_eq_getElem h2] using this
set_option maxHeartbeats 2000000 in
theorem sameV_any (R : Option Addr) (m d : Nat) (vs : List Vl) (T : Option Addr) (p q : Nat) (us : List Vl) (w : World) (hV : Wd.Vs w R m d vs) (hU : Wd.Vs w T p q us) :
    Calls Tryz.prog 68 #[.slice R m d, .slice T p q] w fun e w' => e = .returned (.bool (tr (vs = us))) ∧ Below w.heap.size w w' := by
  have Hm := Lib.hid hV.len
  have Hp := Lib.hid hU.len
  have HV := Lib.hid hV
  have HU := Lib.hid hU
  have hcap := hV.cap
  have hmx := hV.max
  unfold maxLen at hmx
  have hcapq := hU.cap
  obtain ⟨r, hr⟩ : ∃ r, r = tr (vs = us) := ⟨_, rfl⟩
  rw [← hr]
  have Hr := Lib.hid hr
  clear hr hV hU
  by_cases hmp : m = p
  case neg =>
    have e : r = false := by rw [Hr.out]; exact tr_no fun h => hmp (by rw [Hm.out, Hp.out, h])
    subst e
    have qm : ((m : Int) != (p : Int)) = true := by simp; omega
    clear hmp
    go_enter Tryz.func68, Tryz.ntmps68
    go_wp2_with fail
    go_ret
    exact ⟨rfl, Below.refl _ _⟩
  subst hmp
  have hgt : Tryz.prog.eqGuardType Tryz.prog.depth 47 = false := by kernel_rfl
  go_enter Tryz.func68, Tryz.ntmps68
  go_wp2
  go_loopw [5] (fun i wr => ∃ k : Nat, i = .int .i64 k ∧ k ≤ m ∧ Hid (∀ j, j < k → vs.getD j default = us.getD j default) ∧ Below w.heap.size w wr) (fun i _ => m - (intOf i).toNat)
  case atStart => exact ⟨0, rfl, Nat.zero_le _, Lib.hid (fun j hj => by omega), Below.refl _ _⟩
  case round =>
    obtain ⟨k, rfl, hk, hf, hB⟩ := hrel
    by_cases hlt : k < m
    · obtain ⟨e, f, hR, heB, d0, d1, d2, d3, _⟩ := (HV.out.below hB).cells (j := k) (by rw [← Hm.out]; exact hlt) rfl
      subst hR
      obtain ⟨v, hv⟩ : ∃ v, v = vs.getD k default := ⟨_, rfl⟩
      rw [← hv] at d0 d1 d2 d3
      obtain ⟨e', f', hT, heB', u0, u1, u2, u3, _⟩ := (HU.out.below hB).cells (j := k) (by rw [← Hp.out]; exact hlt) rfl
      subst hT
      obtain ⟨u, hu⟩ : ∃ u, u = us.getD k default := ⟨_, rfl⟩
      rw [← hu] at u0 u1 u2 u3
      have Hv := Lib.hid hv
      have Hu := Lib.hid hu
      clear hv hu
      have heq := fun w => Vc.eqV v.kind v.i v.s v.b u.kind u.i u.s u.b w
      by_cases hz : v = u
      · subst hz
        rw [decide_eq_true (by simp)] at heq
        go_wp2_with fail
        go_quiet (fail)
        go_wp2_with fail
        go_roundw
        case rel =>
          refine ⟨k + 1, by go_num, by omega, Lib.hid fun j hj => ?_, Wd.below_drewN hB _⟩
          by_cases hjk : j = k
          · rw [hjk, ← Hv.out, ← Hu.out]
          · exact hf.out j (by omega)
        case measure => simp [intOf]; omega
      · have e : r = false := by rw [Hr.out]; exact tr_no fun h => hz (by rw [Hv.out, Hu.out, h])
        rw [decide_eq_false (fun h => hz (by cases v; cases u; simp_all))] at heq
        have He := Lib.hid e
        clear e hz
        go_wp2_with fail
        go_quiet (fail)
        go_wp2_with fail
        go_ret
        exact ⟨by rw [He.out]; rfl, Wd.below_drewN hB _⟩
    · have hkI : ¬ (k : Int) < m := by omega
      have e : r = true := by
        rw [Hr.out]
        exact tr_yes (eq_get (by rw [← Hm.out, ← Hp.out]) fun i hi => hf.out i (by have := Hm.out; omega))
      have He := Lib.hid e
      clear e hf
      go_wp2_with fail
      go_ret
      exact ⟨by rw [He.out]; rfl, hB⟩
end Sx
namespace Vc
open Va
def cmpL (x y : List UInt8) : Int := way (Op.bytesLess x y) (Op.bytesLess y x)
theorem cmpL_nil : cmpL [] [] = 0 := by simp [cmpL, Op.bytesLess, way]
theorem cmpL_lt (y : List UInt8) (h : y ≠ []) : cmpL [] y = -1 := by
  cases y with
  | nil => exact absurd rfl h
  | cons a y => simp [cmpL, Op.bytesLess, way]
theorem cmpL_gt (x : List UInt8) (h : x ≠ []) : cmpL x [] = 1 := by
  cases x with
  | nil => exact absurd rfl h
  | cons a x => simp [cmpL, Op.bytesLess, way]
theorem cmpL_cons (a b : UInt8) (x y : List UInt8) : cmpL (a :: x) (b :: y) = if a.toNat < b.toNat then -1 else if b.toNat < a.toNat then 1 else cmpL x y := by
  unfold cmpL
  rw [Op.bytesLess, Op.bytesLess]
  by_cases h1 : a < b
  · have h1' : a.toNat < b.toNat := UInt8.lt_iff_toNat_lt.1 h1
    simp [h1, h1', way]
  · have h1' : ¬ a.toNat < b.toNat := fun q => h1 (UInt8.lt_iff_toNat_lt.2 q)
    by_cases h2 : b < a
    · have h2' : b.toNat < a.toNat := UInt8.lt_iff_toNat_lt.1 h2
      have h3 : ¬ a = b := fun q => by rw [q] at h2'; omega
      simp [h1, h2, h1', h2', h3, way]
    · have h2' : ¬ b.toNat < a.toNat := fun q => h2 (UInt8.lt_iff_toNat_lt.2 q)
      have h3 : a = b := UInt8.toNat_inj.1 (by omega)
      subst h3
      simp [h1]
theorem drop_byte (s : ByteArray) (k : Nat) (h : k < s.size) : s.toList.drop k = s[k] :: s.toList.drop (k + 1) := by
  rw [ByteArray.toList_eq]
  have : k < s.data.toList.length := by simpa using h
  rw [List.drop_eq_getElem_cons this]
  rfl
theorem drop_all (s : ByteArray) (k : Nat) (h : s.size ≤ k) : s.toList.drop k = [] := by
  rw [ByteArray.toList_eq]
  exact List.drop_of_length_le (by simpa using h)
theorem drop_some (s : ByteArray) (k : Nat) (h : k < s.size) : s.toList.drop k ≠ [] := by rw [drop_byte s k h]; simp
set_option maxHeartbeats 1000000 in
theorem text_any (s t : ByteArray) (w : World) (hs : s.size ≤ maxLen) :
    Calls Tryz.prog 154 #[.string s, .string t] w fun e w' => e = .returned (.int .i64 (cmpS s t)) ∧ Below w.heap.size w w' := by
  obtain ⟨r, hr⟩ : ∃ r, r = cmpS s t := ⟨_, rfl⟩
  rw [← hr]
  have Hr := Lib.hid hr
  clear hr
  unfold maxLen at hs
  go_enter Tryz.func154, Tryz.ntmps154
  go_wp2
  go_loopw [5] (fun i wr => ∃ k : Nat, i = .int .i64 k ∧ k ≤ s.size ∧ k ≤ t.size ∧ Hid (cmpL (s.toList.drop k) (t.toList.drop k) = r) ∧ Below w.heap.size w wr) (fun i _ => s.size - (intOf i).toNat)
  case atStart => exact ⟨0, rfl, Nat.zero_le _, Nat.zero_le _, Lib.hid (by rw [Hr.out]; rfl), Below.refl _ _⟩
  case round =>
    obtain ⟨k, rfl, hk, hk', hf, hW⟩ := hrel
    by_cases h1 : k < s.size
    · by_cases h2 : k < t.size
      · have hI1 : (k : Int) < (s.size : Int) := by omega
        have hI2 : decide ((k : Int) < (t.size : Int)) = true := decide_eq_true (by omega)
        have hI3 : (k : Int) < (t.size : Int) := by omega
        have hst := cmpL_cons s[k] t[k] (s.toList.drop (k + 1)) (t.toList.drop (k + 1))
        rw [← drop_byte s k h1, ← drop_byte t k h2, hf.out] at hst
        have Hx := Lib.hid hst
        clear hst hf
        by_cases g1 : s[k].toNat < t[k].toNat
        · have gI : (s[k].toNat : Int) < (t[k].toNat : Int) := by omega
          go_wp2_with fail
          go_quiet (fail)
          go_wp2_with fail
          go_ret
          exact ⟨by rw [Hx.out, if_pos g1]; rfl, Wd.below_drewN hW _⟩
        by_cases g2 : t[k].toNat < s[k].toNat
        · have gI : ¬ (s[k].toNat : Int) < (t[k].toNat : Int) := by omega
          have gJ : (t[k].toNat : Int) < (s[k].toNat : Int) := by omega
          go_wp2_with fail
          go_quiet (fail)
          go_wp2_with fail
          go_quiet (fail)
          go_wp2_with fail
          go_ret
          exact ⟨by rw [Hx.out, if_neg g1, if_pos g2]; rfl, by first | exact Wd.below_drewN hW _ | exact Wd.below_drewN (Wd.below_drewN hW _) _⟩
        · have gI : ¬ (s[k].toNat : Int) < (t[k].toNat : Int) := by omega
          have gJ : ¬ (t[k].toNat : Int) < (s[k].toNat : Int) := by omega
          go_wp2_with fail
          go_quiet (fail)
          go_wp2_with fail
          go_quiet (fail)
          go_wp2_with fail
          go_roundw
          case rel => exact ⟨k + 1, by go_num, by omega, by omega, Lib.hid (by rw [Hx.out, if_neg g1, if_neg g2]), Wd.below_drewN hW _⟩
          case measure => simp [intOf]; omega
      · have hI1 : (k : Int) < (s.size : Int) := by omega
        have hI2 : decide ((k : Int) < (t.size : Int)) = false := decide_eq_false (by omega)
        have hI3 : ¬ (s.size : Int) < (t.size : Int) := by omega
        have hI4 : (t.size : Int) < (s.size : Int) := by omega
        have hst : r = 1 := by rw [← hf.out, drop_all t k (by omega), cmpL_gt _ (drop_some s k h1)]
        have Hst := Lib.hid hst
        clear hst hf
        go_wp2_with fail
        go_ret
        exact ⟨by rw [Hst.out]; rfl, hW⟩
    · by_cases h2 : k < t.size
      · have hI1 : ¬ (k : Int) < (s.size : Int) := by omega
        have hI3 : (s.size : Int) < (t.size : Int) := by omega
        have hst : r = -1 := by rw [← hf.out, drop_all s k (by omega), cmpL_lt _ (drop_some t k h2)]
        have Hst := Lib.hid hst
        clear hst hf
        go_wp2_with fail
        go_ret
        exact ⟨by rw [Hst.out]; rfl, hW⟩
      · have hI1 : ¬ (k : Int) < (s.size : Int) := by omega
        have hI3 : ¬ (s.size : Int) < (t.size : Int) := by omega
        have hI4 : ¬ (t.size : Int) < (s.size : Int) := by omega
        have hst : r = 0 := by rw [← hf.out, drop_all s k (by omega), drop_all t k (by omega), cmpL_nil]
        have Hst := Lib.hid hst
        clear hst hf
        go_wp2_with fail
        go_ret
        exact ⟨by rw [Hst.out]; rfl, hW⟩
set_option maxHeartbeats 1000000 in
theorem refOrder_any (k i : Int) (s : ByteArray) (b : Bool) (k' i' : Int) (s' : ByteArray) (b' : Bool) (w : World) (hs : s.size ≤ maxLen) :
    Calls Tryz.prog 102 #[.agg #[.int .i64 k, .int .i64 i, .string s, .bool b], .agg #[.int .i64 k', .int .i64 i', .string s', .bool b']] w fun e w' => e = .returned (.int .i64 (ord ⟨k, i, s, b⟩ ⟨k', i', s', b'⟩)) ∧ Below w.heap.size w w' := by
  have Ct := Lib.hid fun w => text_any s s' w hs
  obtain ⟨r, hr⟩ : ∃ r, r = ord ⟨k, i, s, b⟩ ⟨k', i', s', b'⟩ := ⟨_, rfl⟩
  rw [← hr]
  have Hr := Lib.hid hr
  clear hr hs
  have hb0 : Below w.heap.size w ((w.alloc (.cells #[.int .i64 k, .int .i64 i, .string s, .bool b] 47)).alloc (.cells #[.int .i64 k', .int .i64 i', .string s', .bool b'] 47)) := ((Below.refl _ _).alloc (Nat.le_refl _) _).alloc (by simp) _
  have Hb := Lib.hid hb0
  clear hb0
  by_cases h1 : k < k'
  · go_enter Tryz.func102, Tryz.ntmps102
    go_wp2_with fail
    go_ret
    exact ⟨by rw [Hr.out]; unfold ord; rw [if_pos h1]; rfl, Hb.out⟩
  by_cases h2 : k' < k
  · go_enter Tryz.func102, Tryz.ntmps102
    go_wp2_with fail
    go_ret
    exact ⟨by rw [Hr.out]; unfold ord; rw [if_neg (by show ¬ k < k'; omega), if_pos h2]; rfl, Hb.out⟩
  obtain rfl : k = k' := by omega
  rw [ord_same (a := ⟨k, i, s, b⟩) (b := ⟨k, i', s', b'⟩) rfl] at Hr
  by_cases k1 : k = 1
  · subst k1
    simp only [if_true] at Hr
    by_cases g1 : i < i'
    · have e : cmpI i i' = -1 := by unfold cmpI; simp [g1, way]
      rw [e] at Hr
      clear e
      go_enter Tryz.func102, Tryz.ntmps102
      go_wp2_with fail
      go_ret
      exact ⟨by rw [Hr.out]; rfl, Hb.out⟩
    by_cases g2 : i' < i
    · have e : cmpI i i' = 1 := by unfold cmpI; simp [g1, g2, way]
      rw [e] at Hr
      clear e
      go_enter Tryz.func102, Tryz.ntmps102
      go_wp2_with fail
      go_ret
      exact ⟨by rw [Hr.out]; rfl, Hb.out⟩
    · have e : cmpI i i' = 0 := by unfold cmpI; simp [g1, g2, way]
      rw [e] at Hr
      clear e
      go_enter Tryz.func102, Tryz.ntmps102
      go_wp2_with fail
      go_ret
      exact ⟨by rw [Hr.out]; rfl, Hb.out⟩
  by_cases k2 : k = 2
  · subst k2
    simp only [show ¬ ((2 : Int) = 1) by omega, if_false, if_true] at Hr
    go_enter Tryz.func102, Tryz.ntmps102
    go_wp2_with fail
    refine (Ct.out _).mono ?_
    rintro e w5 ⟨rfl, hB5⟩
    go_wp2_with fail
    go_ret
    exact ⟨by rw [Hr.out]; rfl, Hb.out.trans (hB5.mono (by have := Hb.out.size; simpa using this))⟩
  by_cases k3 : k = 3
  · subst k3
    simp only [show ¬ ((3 : Int) = 1) by omega, show ¬ ((3 : Int) = 2) by omega, if_false, if_true] at Hr
    cases b <;> cases b'
    all_goals
      go_enter Tryz.func102, Tryz.ntmps102
      go_wp2_with fail
      go_ret
      exact ⟨by rw [Hr.out]; rfl, Hb.out⟩
  rw [if_neg k1, if_neg k2, if_neg k3] at Hr
  have q1 : (k == 1) = false := by simpa using k1
  have q2 : (k == 2) = false := by simpa using k2
  have q3 : (k == 3) = false := by simpa using k3
  clear k1 k2 k3
  go_enter Tryz.func102, Tryz.ntmps102
  go_wp2_with fail
  go_ret
  exact ⟨by rw [Hr.out]; rfl, Hb.out⟩
end Vc
end Go.Proofs.YtaoeipehpakngaaGreatDoor
