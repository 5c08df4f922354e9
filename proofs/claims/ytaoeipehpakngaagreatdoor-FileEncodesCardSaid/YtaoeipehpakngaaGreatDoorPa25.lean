/- What the functions of package num that read do: getVarint, GetLen. They leave memory as it is. What the functions of package num that read do: unzigzag, Get (getVarint, GetLen: NumGetV). They leave memory as it is. Package file: the list of payloads that are still to be read: next; the head of a and what goes with it. -/
import Derived.WalkKit
import Derived.WalkSpells
import Derived.Lib.Hide
import Derived.Deep.RegionHeld3
import Derived.Deep.QuietTactic
import Derived.RegionTactic
import Derived.RangeFuncCalls
import Derived.OwnWalkIn
import Derived.OrdersHeld
import Derived.Test.YtaoeipehpakngaaGreatDoorProg
import Derived.Test.YtaoeipehpakngaaGreatDoorPa01
import Derived.Test.YtaoeipehpakngaaGreatDoorPa02
import Derived.Test.YtaoeipehpakngaaGreatDoorPa08
import Derived.Test.YtaoeipehpakngaaGreatDoorPa24
import Derived.Test.YtaoeipehpakngaaGreatDoorPa06
import Derived.Test.YtaoeipehpakngaaGreatDoorPa04
namespace Go.Proofs.YtaoeipehpakngaaGreatDoor
set_option maxRecDepth 20000
open Go.RowKit
namespace Nc
def three (k : IntKind) (p : Int × Int × Int) : Value := .tuple #[.int k p.1, .int .i64 p.2.1, .int .i64 p.2.2]
theorem three_eq {k : IntKind} {a b c : Int} {p : Int × Int × Int} (h : (a, b, c) = p) : Ending.returned (.tuple #[.int k a, .int .i64 b, .int .i64 c]) = .returned (three k p) := by subst h; rfl
set_option maxHeartbeats 400000 in
theorem getVarint_any (A : Option Addr) (n c : Nat) (bs : List Int) (w : World) (hb : Wd.Sl w .u8 A n c bs) (hB : Nm.Byt bs) :
    Calls Tryz.prog 160 #[.slice A n c] w fun e w' => e = .returned (three .u64 (Nm.gv bs)) ∧ w = w' := by
  obtain ⟨rfl, hc, hx, hA, hr⟩ := hb
  unfold maxLen at hx
  rcases Nat.eq_zero_or_pos bs.length with h0 | h0
  · obtain rfl : bs = [] := List.eq_nil_of_length_eq_zero h0
    go_enter Tryz.func160, Tryz.ntmps160
    go_wp2
    refine wp_loop_rounds 1 ?_
    rw [rounds_succ]
    go_wp2
    go_ret3
    exact ⟨rfl, rfl⟩
  · obtain ⟨b, o, rfl, hlt, hcell⟩ := hr.some_ h0
    clear hr hA
    go_enter Tryz.func160, Tryz.ntmps160
    go_wp2
    go_loop [5, 10] (fun a i => ∃ (k : Nat) (acc : Int), i = .int .i64 k ∧ a = .int .u64 acc ∧ k ≤ bs.length ∧ k ≤ 9 ∧ 0 ≤ acc ∧ acc < 128 ^ k ∧ Nm.gvF k acc (bs.drop k) = Nm.gv bs) (fun _ i => bs.length - (intOf i).toNat)
    case atStart => exact ⟨0, 0, rfl, rfl, Nat.zero_le _, Nat.zero_le _, Int.le_refl _, by decide, rfl⟩
    case round =>
      obtain ⟨k, acc, rfl, rfl, hk, hk9, ha0, ha1, hg⟩ := hrel
      have Hg := Lib.hid hg
      clear hg
      by_cases hlt : k < bs.length
      · obtain ⟨x, hx'⟩ : ∃ x, x = bs.getD k 0 := ⟨_, rfl⟩
        have hd : bs.drop k = x :: bs.drop (k + 1) := by
          rw [hx', List.drop_eq_getElem_cons hlt]; simp [List.getD, hlt]
        have hcx := hcell k hlt
        rw [← hx'] at hcx
        have hxb : 0 ≤ x ∧ x ≤ 255 := hB x (by rw [hx']; simp [List.getD, hlt])
        obtain ⟨hx0, hx1⟩ := hxb
        have Hd := Lib.hid hd
        clear hd hx' hcell
        rcases Nat.lt_or_ge k 9 with q1 | q1; rotate_left
        · by_cases q2 : 1 < x
          · go_wp2_with fail
            go_ret3
            refine ⟨three_eq (a := 0) (b := 0) (c := 7) ?_, rfl⟩
            rw [← Hg.out, Hd.out, Nm.gvF, if_pos ⟨by omega, q2⟩]
          · rcases (show x ≤ 0 ∨ 0 < x by omega) with q3 | q3
            · go_wp2_with fail
              go_ret3
              refine ⟨three_eq (a := 0) (b := 0) (c := 7) ?_, rfl⟩
              rw [← Hg.out, Hd.out, Nm.gvF, if_neg (by omega), if_neg (by omega), if_pos (by omega)]
            · go_wp2_with fail
              go_ret3
              refine ⟨three_eq (a := bits BinOp.or IntKind.u64 acc (x % 128 * 9223372036854775808)) (b := 10) (c := 0) ?_, rfl⟩
              rw [← Hg.out, Hd.out, Nm.gvF, if_neg (by omega), if_neg (by omega), if_neg (by omega)]
              obtain rfl : x = 1 := by omega
              obtain rfl : k = 9 := by omega
              have := Nm.or_last acc ha0 ha1
              simp only [Prod.mk.injEq, and_true]
              exact ⟨this, rfl⟩
        · by_cases q2 : 128 ≤ x
          · go_wp2_with fail
            have hs := Nm.or_step k acc x q1 ha0 ha1
            go_round
            case rel =>
              rw [hs]
              refine ⟨k + 1, _, by go_num, rfl, by omega, by omega, Nm.or_step_lo k acc x ha0, Nm.or_step_lt k acc x ha1, ?_⟩
              rw [← Hg.out, Hd.out, Nm.gvF, if_neg (by omega), if_pos q2]
            case measure => simp [intOf]; omega
          · rcases (show x ≤ 0 ∨ 0 < x by omega) with q3 | q3
            · rcases (show k ≤ 0 ∨ 0 < k by omega) with q4 | q4
              · go_wp2_with fail
                go_ret3
                refine ⟨three_eq (a := bits BinOp.or IntKind.u64 acc (IntKind.u64.wrap 0)) (b := (k : Int) + 1) (c := 0) ?_, rfl⟩
                have hs := Nm.or_step k acc 0 q1 ha0 ha1
                rw [← Hg.out, Hd.out, Nm.gvF, if_neg (by omega), if_neg (by omega), if_neg (by omega)]
                obtain rfl : x = 0 := by omega
                simpa using hs
              · go_wp2_with fail
                go_ret3
                refine ⟨three_eq (a := 0) (b := 0) (c := 7) ?_, rfl⟩
                rw [← Hg.out, Hd.out, Nm.gvF, if_neg (by omega), if_neg (by omega), if_pos (by omega)]
            · go_wp2_with fail
              go_ret3
              refine ⟨three_eq (a := bits BinOp.or IntKind.u64 acc (IntKind.u64.wrap (x % 128 * 2 ^ (7 * k)))) (b := (k : Int) + 1) (c := 0) ?_, rfl⟩
              have hs := Nm.or_step k acc x q1 ha0 ha1
              rw [← Hg.out, Hd.out, Nm.gvF, if_neg (by omega), if_neg (by omega), if_neg (by omega), hs]
              rw [Int.emod_eq_of_lt hx0 (by omega)]
      · go_wp2_with fail
        go_ret3
        refine ⟨three_eq (a := 0) (b := 0) (c := 6) ?_, rfl⟩
        rw [← Hg.out, List.drop_of_length_le (by omega)]
        rfl
theorem getLen_any (A : Option Addr) (n c : Nat) (bs : List Int) (w : World) (hb : Wd.Sl w .u8 A n c bs) (hB : Nm.Byt bs) :
    Calls Tryz.prog 111 #[.slice A n c] w fun e w' => e = .returned (three .i64 (Nm.getL bs)) ∧ w = w' := by
  by_cases h : (Nm.gv bs).2.2 = 0
  · obtain ⟨k, u, hk, k1, k2, k3, u0, u1, _⟩ := Nm.gv_only bs hB h
    have hc := (getVarint_any A n c bs w hb hB)
    by_cases hu : 9223372036854775807 < u
    · have hr : Nm.getL bs = (0, 0, 7) := by unfold Nm.getL; rw [hk]; exact if_pos hu
      rw [hk] at hc
      have Hr := Lib.hid hr
      have Hc := Lib.hid hc
      clear hk hr hc h
      go_enter Tryz.func111, Tryz.ntmps111
      go_wp2_with fail
      refine Hc.out.mono ?_
      rintro e w' ⟨rfl, rfl⟩
      unfold three
      go_wp2_with fail
      go_ret3
      rw [Hr.out]
      exact ⟨rfl, rfl⟩
    · have hr : Nm.getL bs = (u, (k : Int), 0) := by unfold Nm.getL; rw [hk]; exact if_neg hu
      rw [hk] at hc
      have Hr := Lib.hid hr
      have Hc := Lib.hid hc
      clear hk hr hc h
      go_enter Tryz.func111, Tryz.ntmps111
      go_wp2_with fail
      refine Hc.out.mono ?_
      rintro e w' ⟨rfl, rfl⟩
      unfold three
      go_wp2_with fail
      go_ret3
      rw [Hr.out]
      exact ⟨rfl, rfl⟩
  · rcases Nm.gv_err bs with q | q | q
    · exact absurd q h
    all_goals
      have hr : Nm.getL bs = Nm.gv bs := by unfold Nm.getL; rw [q]; rfl
      have hc := (getVarint_any A n c bs w hb hB)
      rw [q] at hc hr
      have Hc := Lib.hid hc
      have Hr := Lib.hid hr
      clear hc hr q h
      go_enter Tryz.func111, Tryz.ntmps111
      go_wp2_with fail
      refine Hc.out.mono ?_
      rintro e w' ⟨rfl, rfl⟩
      unfold three
      go_wp2_with fail
      go_ret3
      rw [Hr.out]
      exact ⟨rfl, rfl⟩
end Nc
namespace Nc
theorem unzigzag_any (u : Int) (w : World) (h1 : 0 ≤ u) (h2 : u ≤ 18446744073709551615) :
    Calls Tryz.prog 234 #[.int .u64 u] w fun e w' => e = .returned (.int .i64 (Nm.unz u)) ∧ w = w' := by
  go_enter Tryz.func234, Tryz.ntmps234
  go_wp2
  go_ret
  exact ⟨congrArg (fun x => Ending.returned (.int .i64 x)) (Nm.unzig_bits u h1 h2), rfl⟩
theorem get_any (A : Option Addr) (n c : Nat) (bs : List Int) (w : World) (hb : Wd.Sl w .u8 A n c bs) (hB : Nm.Byt bs) :
    Calls Tryz.prog 193 #[.slice A n c] w fun e w' => e = .returned (three .i64 (Nm.getI bs)) ∧ w = w' := by
  by_cases h : (Nm.gv bs).2.2 = 0
  · obtain ⟨k, u, hk, k1, k2, k3, u0, u1, _⟩ := Nm.gv_only bs hB h
    have hr : Nm.getI bs = (Nm.unz u, (k : Int), 0) := by unfold Nm.getI; rw [hk]; rfl
    have Hr := Lib.hid hr
    have hc := (getVarint_any A n c bs w hb hB)
    rw [hk] at hc
    have Hc := Lib.hid hc
    clear hk hr hc h
    go_enter Tryz.func193, Tryz.ntmps193
    go_wp2_with fail
    refine Hc.out.mono ?_
    rintro e w' ⟨rfl, rfl⟩
    unfold three
    go_wp2_with fail
    refine (unzigzag_any u w u0 u1).mono ?_
    rintro e w' ⟨rfl, rfl⟩
    go_wp2_with fail
    go_ret3
    rw [Hr.out]
    exact ⟨rfl, rfl⟩
  · rcases Nm.gv_err bs with q | q | q
    · exact absurd q h
    all_goals
      have hr : Nm.getI bs = Nm.gv bs := by unfold Nm.getI; rw [q]; rfl
      have hc := (getVarint_any A n c bs w hb hB)
      rw [q] at hc hr
      have Hc := Lib.hid hc
      have Hr := Lib.hid hr
      clear hc hr q h
      go_enter Tryz.func193, Tryz.ntmps193
      go_wp2_with fail
      refine Hc.out.mono ?_
      rintro e w' ⟨rfl, rfl⟩
      unfold three
      go_wp2_with fail
      go_ret3
      rw [Hr.out]
      exact ⟨rfl, rfl⟩
end Nc
namespace Wd
theorem Ss.cut1 {w : World} {b o n c : Nat} {y : List Int} {r : List (List Int)} (h : Ss w (some ⟨b, o, none⟩) n c (y :: r)) : Ss w (if c = 1 then some ⟨b, o, none⟩ else some ⟨b, o + 1, none⟩) (n - 1) (c - 1) r := by
  have hl := h.len
  rw [List.length_cons] at hl
  have hc := h.cap
  have hm := h.max
  refine ⟨by omega, by omega, by omega, (fun e => by split at e <;> cases e), fun j hj => ?_⟩
  obtain ⟨b', o', A', n', c', e, h1, h2, h3⟩ := h.at_ (j + 1) (by rw [List.length_cons]; omega)
  cases e
  rw [if_neg (by omega)]
  exact ⟨b, o + 1, A', n', c', rfl, h1, by rw [show o + 1 + j = o + (j + 1) by omega]; exact h2, by simpa using h3⟩
end Wd
namespace Fi
open Se (Seg Sg Gb)
open Wd (Cr)
open Nc
structure Lb (w0 w : World) (p : Nat) (a b c d : Int) (OA : Option Addr) (on oc : Nat) (CA : Option Addr) (cn cc : Nat) (ps : List (List Int)) : Prop where
  ex : ∃ PA pn pc, Wd.Ss w0 PA pn pc ps ∧ Wd.Bx w p 103 #[.int .i64 a, .int .i64 b, .int .i64 c, .int .i64 d, .slice OA on oc, .slice CA cn cc, .slice PA pn pc]
  p0 : w0.heap.size ≤ p
  bel : Below w0.heap.size w0 w
section
variable {w0 w : World} {p : Nat} {a b c d : Int} {OA : Option Addr} {on oc : Nat} {CA : Option Addr} {cn cc : Nat}
theorem Lb.below {w' : World} {ps : List (List Int)} (h : Lb w0 w p a b c d OA on oc CA cn cc ps) (hb : Below w.heap.size w w') : Lb w0 w' p a b c d OA on oc CA cn cc ps := by
  obtain ⟨⟨PA, pn, pc, h1, h2⟩, h3, h4⟩ := h
  exact ⟨⟨PA, pn, pc, h1, h2.below h2.lt hb⟩, h3, h4.trans (hb.mono h4.size)⟩
theorem Lb.lt {ps : List (List Int)} (h : Lb w0 w p a b c d OA on oc CA cn cc ps) : p < w.heap.size := by
  obtain ⟨⟨_, _, _, _, h2⟩, _, _⟩ := h
  exact h2.lt
set_option maxHeartbeats 4000000 in
theorem next_cons {y : List Int} {r : List (List Int)} (h : Lb w0 w p a b c d OA on oc CA cn cc (y :: r)) (hr : r.length ≤ 1000000) :
    Calls Tryz.prog 110 #[.pointer (some ⟨p, 0, none⟩)] w fun e w' => ∃ A n m, e = .returned (.slice A n m) ∧ Wd.Sl w0 .u8 A n m y ∧ Lb w0 w' p a b c d OA on oc CA cn cc r ∧ Wd.Mv (fun g => g = p) w w' := by
  obtain ⟨⟨PA, pn, pc, hs, hb⟩, hp, hbel⟩ := h
  have hl := hs.len
  rw [List.length_cons] at hl
  have hcap := hs.cap
  have hmax := hs.max
  unfold maxLen at hmax
  obtain ⟨b1, o1, A1, n1, c1, rfl, hlt1, hc1, hS1⟩ := hs.at_ 0 (by simp)
  have hcut := hs.cut1
  have e1 : w.cell? ⟨b1, o1, none⟩ = some (.slice A1 n1 c1) := (hbel.cell (p := ⟨b1, o1, none⟩) hlt1).trans (by simpa using hc1)
  have d6 : w.cell? ⟨p, 6, none⟩ = some (.slice (some ⟨b1, o1, none⟩) pn pc) := hb.cell 6
  have f6 := hb.free 6
  have HE := Lib.hid (show ∀ A n m, Wd.Ss w0 A n m r → Lb w0 (w.setCell ⟨p, 6, none⟩ (.slice A n m)) p a b c d OA on oc CA cn cc r ∧ Wd.Mv (fun g => g = p) w (w.setCell ⟨p, 6, none⟩ (.slice A n m)) from fun A n m h =>
    ⟨⟨⟨A, n, m, h, by have := hb.set 6 (.slice A n m); simpa using this⟩, hp, hbel.setCell (p := ⟨p, 6, none⟩) hp _⟩, (Wd.Mv.refl (fun g => g = p) w).set (G := fun g => g = p) (a := ⟨p, 6, none⟩) rfl _⟩)
  have HS1 := Lib.hid hS1
  have i1 : ((0 : Nat) : Int) < (pn : Int) := by omega
  have i2 : (1 : Int) ≤ (pn : Int) := by omega
  have i3 : (0 : Int) < (pn : Int) := by omega
  have i4 : ((pn : Int) == 0) = false := by simp; omega
  have i5 : (pn == 0) = false := by simp; omega
  have i6 : decide (0 < pn) = true := by simp; omega
  have Hl := Lib.hid hl
  clear hs hb hbel hp hS1 hc1 hlt1 hl
  by_cases hq : pc = 1
  · subst hq
    obtain rfl : pn = 1 := by have := Hl.out; omega
    rw [if_pos rfl] at hcut
    have Hc := Lib.hid hcut
    clear hcut
    go_enter Tryz.func110, Tryz.ntmps110
    go_wp2_with fail
    go_ret
    exact ⟨_, _, _, rfl, HS1.out, HE.out _ _ _ Hc.out⟩
  · rw [if_neg hq] at hcut
    have Hc := Lib.hid hcut
    have i7 : (1 : Int) < (pc : Int) := by omega
    have i8 : 1 < pc := by omega
    have i9 : ¬ pc = 1 := hq
    clear hcut hq
    go_enter Tryz.func110, Tryz.ntmps110
    go_wp2_with fail
    go_ret
    exact ⟨_, _, _, rfl, HS1.out, HE.out _ _ _ Hc.out⟩
end
end Fi
namespace Fi
open Se (Seg Sg Gb)
open Nc
section
variable {w0 w : World} {p : Nat} {OA : Option Addr} {on oc : Nat} {CA : Option Addr} {cn cc : Nat}
def adr (p q k : Nat) : Addr := if k < 4 then ⟨p, k, none⟩ else ⟨q, 0, none⟩
def hnk (x : Seg) (k j : Nat) : Int := if j < k then (hns x).getD j 0 else 0
structure Hb (w wr : World) (p : Nat) (OA : Option Addr) (on oc : Nat) (CA : Option Addr) (cn cc : Nat) (PA : Option Addr) (pn pc : Nat) (x : Seg) (q k : Nat) : Prop where
  b : Wd.Bx wr p 103 #[.int .i64 (hnk x k 0), .int .i64 (hnk x k 1), .int .i64 (hnk x k 2), .int .i64 (hnk x k 3), .slice OA on oc, .slice CA cn cc, .slice PA pn pc]
  c : Wd.Bx wr q 3 #[.int .i64 (hnk x k 4)]
  r : Wd.Bx wr (q + 1) 152 #[.pointer (some ⟨p, 0, none⟩), .pointer (some ⟨p, 1, none⟩), .pointer (some ⟨p, 2, none⟩), .pointer (some ⟨p, 3, none⟩), .pointer (some ⟨q, 0, none⟩)]
  m : Wd.Mv (fun g => g = p) w wr
  lo : w.heap.size ≤ q
  pq : p < w.heap.size
section
variable {wr : World} {PA : Option Addr} {pn pc : Nat} {x : Seg} {q k : Nat}
theorem Hb.drew (h : Hb w wr p OA on oc CA cn cc PA pn pc x q k) : Hb w wr.drew p OA on oc CA cn cc PA pn pc x q k := ⟨h.b, h.c, h.r, h.m.drew, h.lo, h.pq⟩
theorem Hb.ptr (h : Hb w wr p OA on oc CA cn cc PA pn pc x q k) (hk : k < 5) : wr.cell? ⟨q + 1, k, none⟩ = some (.pointer (some (adr p q k))) ∧ wr.cell? (adr p q k) = some (.int .i64 0) ∧ wr.frozen? (adr p q k) = false := by
  match k, hk with
  | 0, _ => exact ⟨h.r.cell 0, h.b.cell 0, h.b.free 0⟩
  | 1, _ => exact ⟨h.r.cell 1, h.b.cell 1, h.b.free 1⟩
  | 2, _ => exact ⟨h.r.cell 2, h.b.cell 2, h.b.free 2⟩
  | 3, _ => exact ⟨h.r.cell 3, h.b.cell 3, h.b.free 3⟩
  | 4, _ => exact ⟨h.r.cell 4, h.c.cell 0, h.c.free 0⟩
theorem Hb.next (h : Hb w wr p OA on oc CA cn cc PA pn pc x q k) (hk : k < 5) : Hb w (wr.setCell (adr p q k) (.int .i64 ((hns x).getD k 0))) p OA on oc CA cn cc PA pn pc x q (k + 1) := by
  have lo := h.lo
  have pq := h.pq
  match k, hk with
  | 0, _ => exact ⟨h.b.set 0 _, h.c.other (a := ⟨p, 0, none⟩) (show q ≠ p by omega) _, h.r.other (a := ⟨p, 0, none⟩) (show q + 1 ≠ p by omega) _, h.m.set (a := ⟨p, 0, none⟩) rfl _, lo, pq⟩
  | 1, _ => exact ⟨h.b.set 1 _, h.c.other (a := ⟨p, 1, none⟩) (show q ≠ p by omega) _, h.r.other (a := ⟨p, 1, none⟩) (show q + 1 ≠ p by omega) _, h.m.set (a := ⟨p, 1, none⟩) rfl _, lo, pq⟩
  | 2, _ => exact ⟨h.b.set 2 _, h.c.other (a := ⟨p, 2, none⟩) (show q ≠ p by omega) _, h.r.other (a := ⟨p, 2, none⟩) (show q + 1 ≠ p by omega) _, h.m.set (a := ⟨p, 2, none⟩) rfl _, lo, pq⟩
  | 3, _ => exact ⟨h.b.set 3 _, h.c.other (a := ⟨p, 3, none⟩) (show q ≠ p by omega) _, h.r.other (a := ⟨p, 3, none⟩) (show q + 1 ≠ p by omega) _, h.m.set (a := ⟨p, 3, none⟩) rfl _, lo, pq⟩
  | 4, _ => exact ⟨h.b.other (a := ⟨q, 0, none⟩) (show p ≠ q by omega) _, h.c.set 0 _, h.r.other (a := ⟨q, 0, none⟩) (show q + 1 ≠ q by omega) _, h.m.trans ((Wd.Mv.refl _ wr).set (G := Wd.Gr (fun g => g = p) w wr) (a := ⟨q, 0, none⟩) (.inr ⟨lo, h.c.lt⟩) _), lo, pq⟩
end
theorem head_drop (x : Seg) (k : Nat) (hk : k < 5) : (head x).drop (hdk x k).length = Nm.vd ((hns x).getD k 0) ++ (head x).drop (hdk x (k + 1)).length := by
  have h : head x = hdk x k ++ (Nm.vd ((hns x).getD k 0) ++ ((hns x).drop (k + 1)).flatMap Nm.vd) := by
    rw [← hdk_all]
    unfold hdk
    have e : (hns x).take 5 = (hns x).take k ++ (hns x).getD k 0 :: (hns x).drop (k + 1) := by
      have h1 : (hns x).take 5 = hns x := List.take_of_length_le (by simp [hns])
      rw [h1]
      conv => lhs; rw [← List.take_append_drop k (hns x)]
      congr 1
      rw [List.drop_eq_getElem_cons (show k < (hns x).length by simp [hns]; omega)]
      simp [List.getD, show k < (hns x).length by simp [hns]; omega]
    rw [e, List.flatMap_append, List.flatMap_cons]
  rw [hdk_next x k hk]
  conv => lhs; rw [h, List.drop_left]
  conv => rhs; rw [h, ← List.append_assoc, List.drop_left]
set_option maxHeartbeats 8000000 in
theorem readHead_yes {x : Seg} {r : List (List Int)} (hx : Nice x) (h : Lb w0 w p 0 0 0 0 OA on oc CA cn cc (head x :: r)) (hr : r.length ≤ 1000000) :
    Calls Tryz.prog 65 #[.pointer (some ⟨p, 0, none⟩), .int .i64 (x.cols.length : Int)] w fun e w' => e = .returned (.bool true) ∧ Lb w0 w' p x.part x.id x.st x.en OA on oc CA cn cc r ∧ Wd.Mv (fun g => g = p) w w' := by
  have Cn := Lib.hid (next_cons h hr)
  obtain ⟨N, hN⟩ : ∃ N, N = x.cols.length := ⟨_, rfl⟩
  rw [← hN]
  have HN := Lib.hid hN
  have HP := Lib.hid h.lt
  have Hbw := Lib.hid (And.intro h.p0 h.bel)
  have Hin := Lib.hid (hns_in hx.head hx.few)
  have Hby := Lib.hid (head_byt hx)
  clear h hN hx
  go_enter Tryz.func65, Tryz.ntmps65
  go_wp2_with fail
  refine Cn.out.mono ?_
  rintro e w1 ⟨A1, n1, c1, rfl, hS1, hL1, hM1⟩
  obtain ⟨⟨PA, pn, pc, hs, hb⟩, hp0, hbel⟩ := hL1
  have HS0 := Lib.hid hs
  have Hbel := Lib.hid hbel
  have hp1 : p < w1.heap.size := hb.lt
  have hA0 : Hb w ((w1.alloc (.cells #[.int .i64 0] 3)).alloc (.cells #[.pointer (some ⟨p, 0, none⟩), .pointer (some ⟨p, 1, none⟩), .pointer (some ⟨p, 2, none⟩), .pointer (some ⟨p, 3, none⟩), .pointer (some ⟨w1.heap.size, 0, none⟩)] 152)).drew p OA on oc CA cn cc PA pn pc x w1.heap.size 0 := by
    have z1 : (w1.alloc (.cells #[.int .i64 0] 3)).heap.size = w1.heap.size + 1 := by simp
    have r1 := Wd.Bx.new (w1.alloc (.cells #[.int .i64 0] 3)) 152 #[.pointer (some ⟨p, 0, none⟩), .pointer (some ⟨p, 1, none⟩), .pointer (some ⟨p, 2, none⟩), .pointer (some ⟨p, 3, none⟩), .pointer (some ⟨w1.heap.size, 0, none⟩)]
    rw [z1] at r1
    exact ⟨(hb.alloc _).alloc _, (Wd.Bx.new w1 3 #[.int .i64 0]).alloc _, r1, ((hM1.alloc _).alloc _).drew, hM1.size, HP.out⟩
  have HA := Lib.hid hA0
  have HS1 := Lib.hid hS1
  clear hs hbel hb hA0 hM1 hS1 Cn
  go_wp2_with fail
  go_region
  generalize ((w1.alloc (.cells #[.int .i64 0] 3)).alloc (.cells #[.pointer (some ⟨p, 0, none⟩), .pointer (some ⟨p, 1, none⟩), .pointer (some ⟨p, 2, none⟩), .pointer (some ⟨p, 3, none⟩), .pointer (some ⟨w1.heap.size, 0, none⟩)] 152)).drew = W at *
  go_wp2_with fail
  go_loopw [5, 32] (fun v i wr => ∃ k : Nat, i = .int .i64 k ∧ k ≤ 5 ∧ ∃ A n c, v = .slice A n c ∧ Hid (Wd.Sl w0 .u8 A n c ((head x).drop (hdk x k).length)) ∧ Hid (Hb w wr p OA on oc CA cn cc PA pn pc x w1.heap.size k)) (fun _ i _ => 5 - (intOf i).toNat)
  case atStart => exact ⟨0, rfl, Nat.zero_le _, A1, n1, c1, rfl, Lib.hid (by simpa [hdk] using HS1.out), HA⟩
  case round =>
    obtain ⟨k, rfl, hk, A, n, c, rfl, hS, hI⟩ := hrel
    by_cases hlt : k < 5
    · have hkI : (k : Int) < 5 := by omega
      obtain ⟨g1, g2, g3⟩ := hI.out.ptr hlt
      have hnx := Lib.hid (hI.out.next hlt)
      obtain ⟨ad, had⟩ : ∃ ad, ad = adr p w1.heap.size k := ⟨_, rfl⟩
      have hz := Hin.out k hlt
      have hbw : Below w0.heap.size w0 wr := Hbw.out.2.trans (hI.out.m.below (fun g e => by rw [e]; exact Hbw.out.1) Hbw.out.2.size)
      have hSl := hS.out.below hbw
      have hd := head_drop x k hlt
      rw [hd] at hSl
      have Cg := getLen_any A n c _ wr hSl (by rw [← hd]; exact fun z hz => Hby.out z (List.mem_of_mem_drop hz))
      obtain ⟨z, hz'⟩ : ∃ z, z = (hns x).getD k 0 := ⟨_, rfl⟩
      rw [← hz'] at Cg hz hnx hSl
      rw [Lw.getL_vd z _ hz.1 hz.2] at Cg
      rw [← had] at g1 g2 g3 hnx
      have hlen := hSl.len
      rw [List.length_append] at hlen
      have hS' := hS.out
      rw [hd, ← hz'] at hS'
      obtain ⟨L, hL⟩ : ∃ L, L = (Nm.vd z).length := ⟨_, rfl⟩
      have hcut := hS'.cut L (by omega)
      rw [hL, List.drop_left, ← hL] at hcut
      rw [← hL] at Cg hlen
      have hcap := hSl.cap
      have hmax := hSl.max
      unfold maxLen at hmax
      have hL1 : 1 ≤ L := by rw [hL]; exact (Nm.vd_len z).1
      obtain ⟨b, o, hA, -, -⟩ := hSl.rd 0 (by rw [List.length_append]; omega)
      subst hA
      have Cg := Lib.hid Cg
      have hLn : L ≤ n := by omega
      have j1 : (0 : Int) ≤ (L : Int) := by omega
      have j2 : (L : Int) ≤ (n : Int) := by omega
      have j3 : (L : Int) ≤ (c : Int) := by omega
      have Hk := Lib.hid (show k + 1 ≤ 5 by omega)
      clear hd hSl hS' hlen hL hS hz hz' hbw had hI hk hL1
      by_cases hq : c = L
      · subst hq
        obtain rfl : n = c := by omega
        rw [if_pos rfl, Nat.sub_self] at hcut
        have Hc := Lib.hid hcut
        clear hcut
        go_wp2_with fail
        refine Cg.out.mono ?_
        rintro e w3 ⟨rfl, rfl⟩
        unfold three
        clear Cg
        go_wp2_with fail
        go_region
        all_goals
          go_wp2_with fail
          go_roundw
          case rel => exact ⟨k + 1, by go_num, Hk.out, _, _, _, rfl, Hc, Lib.hid hnx.out.drew⟩
          case measure => simp [intOf]; omega
      · rw [if_neg hq, Option.map_some, Addr.add_lit] at hcut
        have Hc := Lib.hid hcut
        have j4 : (L : Int) < (c : Int) := by omega
        have j5 : L < c := by omega
        clear hcut
        go_wp2_with fail
        refine Cg.out.mono ?_
        rintro e w3 ⟨rfl, rfl⟩
        unfold three
        clear Cg
        go_wp2_with fail
        go_region
        all_goals
          go_wp2_with fail
          go_roundw
          case rel => exact ⟨k + 1, by go_num, Hk.out, _, _, _, rfl, Hc, Lib.hid hnx.out.drew⟩
          case measure => simp [intOf]; omega
    · have hkI : ¬ (k : Int) < 5 := by omega
      obtain rfl : k = 5 := by omega
      have hn0 : n = 0 := by
        have := hS.out.len
        rw [hdk_all, List.drop_length] at this
        exact this
      subst hn0
      have t6 : wr.cell? ⟨w1.heap.size, 0, none⟩ = some (.int .i64 (N : Int)) := by rw [HN.out]; exact hI.out.c.cell 0
      have q0 : ((N : Int) == (N : Int)) = true := by simp
      have HR := Lib.hid (show Lb w0 wr p x.part x.id x.st x.en OA on oc CA cn cc r ∧ Wd.Mv (fun g => g = p) w wr from ⟨⟨⟨PA, pn, pc, HS0.out, hI.out.b⟩, Hbw.out.1, Hbw.out.2.trans (hI.out.m.below (fun g e => by rw [e]; exact Hbw.out.1) Hbw.out.2.size)⟩, hI.out.m⟩)
      clear hI hS
      go_wp2_with fail
      go_ret
      exact ⟨rfl, HR.out⟩
end
end Fi
namespace Rg
section
variable {P : Program} {l n : Nat} {ops : Array Oper} {md : Region.Mode} {Q : Exit → Act → World → Prop}
theorem upon_in {o : Oper} {a : Act} {K : Act → World → Prop} {r : Result Next} (h : o.upon P a K Q r) : o.uponIn (Fence.wide.inRound l) n P a K Q r := by
  cases r with
  | ok x w' =>
    cases x <;> simp only [Oper.upon] at h <;> simp only [Oper.uponIn]
    all_goals first
      | exact h
      | exact ⟨(fun hd => by cases hd), CallsIn.inRound l (callsIn_wide.2 h)⟩
      | exact ⟨(fun hd => by cases hd), fun c cs _ => let ⟨v, w2, r, s⟩ := h c cs; ⟨v, w2, r, stepsIn_wide.2 s⟩⟩
  | halt x w' => cases x <;> simp only [Oper.upon] at h <;> simp only [Oper.uponIn] <;> exact h
theorem wp_in {o : Oper} {a : Act} {w : World} {K : Act → World → Prop} (hd : ∀ c, o.op ≠ .defer c) (h : o.wp P a w K Q) : o.wpIn (Fence.wide.inRound l) n P a w K Q :=
  ⟨fun _ _ => trivial, by rw [Oper.semAt_plain _ _ _ hd]; exact upon_in h⟩
theorem any_in (hd : ∀ (i : Nat) (o : Oper), ops[i]? = some o → ∀ c, o.op ≠ .defer c) (hQ : ¬ LetsOut Q) : ∀ (fuel : Nat) (listed : Array Bool) (a : Act) (w : World),
    wpAny P md ops Q fuel listed a w → wpAnyIn (Fence.wide.inRound l) n P md ops Q fuel listed a w := by
  intro fuel
  induction fuel with
  | zero => intro listed a w h; exact h
  | succ fuel ih =>
    intro listed a w h
    refine ⟨h.1, fun i hi => ?_⟩
    have h2 := wpOp_mono (fun a' w' h' => ih _ a' w' h') (h.2 i hi)
    unfold wpOp at h2
    unfold wpOpIn
    split
    · rename_i ho; simp only [ho] at h2; exact h2
    · rename_i o ho
      simp only [ho] at h2
      split
      · rename_i hw
        simp only [hw, if_true] at h2
        rcases h2 with h2 | ⟨_, h2⟩
        · exact wp_in (hd i o ho) h2
        · exact absurd h2 hQ
      · rename_i hw
        simp only [hw] at h2
        exact ⟨fun _ _ => trivial, h2⟩
def noDefer (ops : Array Oper) : Bool := ops.toList.all fun o => match o.op with | .defer _ => false | _ => true
theorem noDefer_spec (h : noDefer ops = true) : ∀ (i : Nat) (o : Oper), ops[i]? = some o → ∀ c, o.op ≠ .defer c := fun i o ho c e => by
  have hm : o ∈ ops.toList := Array.mem_toList_iff.2 (Array.mem_of_getElem? ho)
  have := List.all_eq_true.1 h o hm
  rw [e] at this
  cases this
end
end Rg
namespace Wd
theorem wrap_wr (x : Int) : IntKind.i64.wrap x = Rn.wr x := by
  unfold IntKind.wrap Rn.wr
  simp [IntKind.signed, IntKind.bits]
  omega
theorem wr64 (x : Int) : Rn.wr x = wrap64 x := by unfold Rn.wr wrap64; rfl
theorem fit_get {l : List Int} (h : Rn.Fits l) (j : Nat) (hj : j < l.length) : -9223372036854775808 ≤ l.getD j 0 ∧ l.getD j 0 ≤ 9223372036854775807 :=
  h _ (by simp [List.getD, hj])
def SlB (B : Nat) (w : World) (k : IntKind) (A : Option Addr) (n c : Nat) (ys : List Int) : Prop := Sl w k A n c ys ∧ ∀ a, A = some a → B ≤ a.block
theorem SlB.up {B B' : Nat} {w : World} {k : IntKind} {A : Option Addr} {n c : Nat} {ys : List Int} (h : SlB B w k A n c ys) (hB : B' ≤ B) : SlB B' w k A n c ys := ⟨h.1, fun a e => Nat.le_trans hB (h.2 a e)⟩
theorem SlB.below {B : Nat} {w w' : World} {k : IntKind} {A : Option Addr} {n c : Nat} {ys : List Int} (h : SlB B w k A n c ys) (hb : Below w.heap.size w w') : SlB B w' k A n c ys := ⟨h.1.below hb, h.2⟩
theorem own_ge {w : World} {B : Nat} {e : TypeId} {s m : Nat} {A : Option Addr} {n c : Nat} {xs : List Value} (h : w.ownsRow B e s (.slice A n c) m xs) : ∀ a, A = some a → B ≤ a.block := by
  intro a ha
  rcases h.2 with ⟨q, _⟩ | ⟨g, cap, cur, q, hb, _⟩
  · cases q; cases ha
  · cases q; cases ha; exact hb
def Out3N (w : World) (ys : List Int) (n er : Int) (e : Ending) (w' : World) : Prop :=
  ∃ A m c, e = .returned (.tuple #[.slice A m c, .int .i64 n, .int .i64 er]) ∧ SlB w.heap.size w' .i64 A m c ys ∧ Below w.heap.size w w'
def cellsR (r : Rn.Rs) : List Int := r.flatMap fun p => [p.1, p.2]
theorem cellsR_len (r : Rn.Rs) : (cellsR r).length = r.length * 2 := by
  induction r with
  | nil => rfl
  | cons p r ih => simp [cellsR] at ih ⊢; omega
theorem cellsR_app (r s : Rn.Rs) : cellsR (r ++ s) = cellsR r ++ cellsR s := by simp [cellsR]
theorem cellsR_get (r : Rn.Rs) : ∀ j, j < r.length → (cellsR r).getD (j * 2) 0 = (r.getD j (0, 0)).1 ∧ (cellsR r).getD (j * 2 + 1) 0 = (r.getD j (0, 0)).2 := by
  induction r with
  | nil => intro j hj; simp at hj
  | cons p r ih =>
    intro j hj
    have e : cellsR (p :: r) = p.1 :: p.2 :: cellsR r := rfl
    cases j with
    | zero => simp [e]
    | succ j =>
      simp only [List.length_cons] at hj
      have h := ih j (by omega)
      rw [e, show (j + 1) * 2 = j * 2 + 1 + 1 by omega, show j * 2 + 1 + 1 + 1 = (j * 2 + 1) + 1 + 1 by omega]
      simp only [List.getD_cons_succ]
      exact h
structure Sr (w : World) (A : Option Addr) (n c : Nat) (r : Rn.Rs) : Prop where
  len : n = r.length
  cap : n ≤ c
  max : c ≤ maxLen
  nil : A = none → c = 0
  rd : Rd w w.heap.size .i64 A (cellsR r)
theorem Sr.none_ (w : World) : Sr w none 0 0 [] := ⟨rfl, Nat.le_refl _, Nat.zero_le _, fun _ => rfl, Rd.nil⟩
theorem Sr.at_ {w : World} {A : Option Addr} {n c : Nat} {r : Rn.Rs} (h : Sr w A n c r) (j : Nat) (hj : j < n) :
    ∃ b o, A = some ⟨b, o, none⟩ ∧ b < w.heap.size ∧ w.cell? ⟨b, o + j * 2, none⟩ = some (.int .i64 (r.getD j (0, 0)).1) ∧ w.cell? ⟨b, o + (j * 2 + 1), none⟩ = some (.int .i64 (r.getD j (0, 0)).2) := by
  have hl := h.len
  have h0 : 0 < (cellsR r).length := by rw [cellsR_len]; omega
  obtain ⟨b, o, e, hb, hc⟩ := h.rd.some_ h0
  obtain ⟨e1, e2⟩ := cellsR_get r j (by omega)
  have h1 := hc (j * 2) (by rw [cellsR_len]; omega)
  have h2 := hc (j * 2 + 1) (by rw [cellsR_len]; omega)
  rw [e1] at h1
  rw [e2] at h2
  exact ⟨b, o, e, hb, h1, h2⟩
def OutR (w : World) (r : Rn.Rs) (e : Ending) (w' : World) : Prop :=
  ∃ A n c, e = .returned (.slice A n c) ∧ Sr w' A n c r ∧ Below w.heap.size w w'
theorem ownR_form {w : World} {base : Nat} {e : TypeId} {v : Value} {n : Nat} {r : Rn.Rs} (h : w.ownsRow base e 2 v n ((cellsR r).map (Value.int .i64))) : ∃ A c, v = .slice A r.length c ∧ Sr w A r.length c r := by
  have hl : n = r.length := by have := h.1; simp [cellsR_len] at this; omega
  subst hl
  rcases h.2 with ⟨rfl, h0⟩ | ⟨g, cap, cur, rfl, hb, hg, h1, h2, h3, h4⟩
  · have : r = [] := List.eq_nil_of_length_eq_zero h0
    subst this
    exact ⟨none, 0, rfl, Sr.none_ _⟩
  · refine ⟨_, _, rfl, ⟨rfl, h1, h2, by simp, Rd.mk (Array.getElem?_eq_some_iff.1 hg).1 fun j hj => ?_⟩⟩
    have := h.cellAt (g := g) (cap := cap) j (by rw [cellsR_len] at hj; simpa [cellsR_len] using hj)
    rw [Nat.zero_add, this]
    simp [List.getD, List.getElem?_eq_getElem hj]
end Wd
end Go.Proofs.YtaoeipehpakngaaGreatDoor
