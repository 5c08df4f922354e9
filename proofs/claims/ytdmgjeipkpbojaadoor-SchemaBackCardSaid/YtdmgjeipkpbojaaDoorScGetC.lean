/- What getValue and getColumn of package schema do. -/
import Derived.Test.YtdmgjeipkpbojaaDoorScErr
import Derived.Test.YtdmgjeipkpbojaaDoorScFind
import Derived.Test.YtdmgjeipkpbojaaDoorVaGet
import Derived.Deep.RegionWith
import Derived.BigRegion
import Derived.IntWalk
namespace Go.Proofs.YtdmgjeipkpbojaaDoor
set_option maxRecDepth 20000
open Go.RowKit
namespace Sx
open Sc (Col Sch rd1)
open Va (Vl null)
open Er (Gl sent)
/-- An answer of a value, a count and an error. -/
def ansC (v : Vl) (k : Int) (e : Value) : Value := .tuple #[.agg #[.int .i64 v.kind, .int .i64 v.i, .string v.s, .bool v.b], .int .i64 k, e]
/-- An error in a column, and the number that it is told as. -/
def IsE1 (aN aB : Addr) (e : Value) (n : Int) : Prop := e = Er.refusal n ∨ (e = sent aN ∧ n = 6) ∨ (e = sent aB ∧ n = 7)
set_option maxHeartbeats 2000000 in
theorem getValue_any (A : Option Addr) (n c : Nat) (bs : List Int) (kind : Int) (w : World) (hS : Wd.Sl w .u8 A n c bs) (hB : Nm.Byt bs) :
    Calls Tryd.prog 58 #[.slice A n c, .int .i64 kind] w fun e w' => e = .returned (if (Va.get bs kind).2.2 = 0 then ansC (Va.get bs kind).1 (Va.get bs kind).2.1 .nilIface else ansC null 0 (Er.refusal (Va.get bs kind).2.2)) ∧ Below w.heap.size w w' := by
  have hb1 := (Below.refl w.heap.size w).alloc (Nat.le_refl _) (.cells #[.int .i64 0, .int .i64 0, .string ⟨#[]⟩, .bool false] 46)
  have c1 := Vc.Get_any A n c bs kind _ (hS.below hb1) hB
  obtain ⟨v, k, er, hg⟩ : ∃ v k er, Va.get bs kind = (v, k, er) := ⟨_, _, _, rfl⟩
  rw [hg] at c1 ⊢
  have C1 := Lib.hid c1
  clear c1 hg hS hB
  have v0 : Vc.Vb (w.alloc (.cells #[.int .i64 0, .int .i64 0, .string ⟨#[]⟩, .bool false] 46)) w.heap.size 0 0 ⟨#[]⟩ false := Wd.Bx.new w _ _
  have V0 := Lib.hid v0
  clear v0
  unfold Vc.ansV at C1
  by_cases he : er = 0
  · simp only [he, if_true]
    subst he
    go_enter Tryd.func58, Tryd.ntmps58
    go_wp2_with fail
    refine C1.out.mono ?_
    rintro e w1 ⟨rfl, hB1⟩
    generalize w.alloc (.cells #[.int .i64 0, .int .i64 0, .string ⟨#[]⟩, .bool false] 46) = wa at *
    obtain ⟨⟨u0, u1, u2, u3⟩, ⟨f0, f1, f2, f3⟩⟩ := Vc.four (V0.out.below (Wd.Bx.lt V0.out) hB1)
    have hl0 := Wd.Bx.lt V0.out
    have hw1 := hb1.trans (hB1.mono hb1.size)
    have hz1 := hw1.size
    have hlt1 : w.heap.size < w1.heap.size := Nat.lt_of_lt_of_le hl0 hB1.size
    go_wp2_with fail
    (try simp only [Exit.inBlock, Exit.then])
    refine bodyPost_ret (v := ansC v k .nilIface) ?_ rfl ⟨rfl, ?_⟩
    · unfold ansC; rw [Vc.res_cell3 rfl]; go_simp
    · repeat' (first | exact hw1 | with_reducible exact Below.refl _ _ | with_reducible refine Below.setCell ?_ (by simp <;> omega) _ | with_reducible refine Below.alloc ?_ (by simp <;> omega) _)
  · simp only [he, if_false]
    have he' : (er != 0) = true := by simpa using he
    clear he
    go_enter Tryd.func58, Tryd.ntmps58
    go_wp2_with fail
    refine C1.out.mono ?_
    rintro e w1 ⟨rfl, hB1⟩
    generalize w.alloc (.cells #[.int .i64 0, .int .i64 0, .string ⟨#[]⟩, .bool false] 46) = wa at *
    obtain ⟨⟨u0, u1, u2, u3⟩, ⟨f0, f1, f2, f3⟩⟩ := Vc.four (V0.out.below (Wd.Bx.lt V0.out) hB1)
    have hl0 := Wd.Bx.lt V0.out
    have hw1 := hb1.trans (hB1.mono hb1.size)
    have hz1 := hw1.size
    have hlt1 : w.heap.size < w1.heap.size := Nat.lt_of_lt_of_le hl0 hB1.size
    go_wp2_with fail
    (try simp only [Exit.inBlock, Exit.then])
    refine bodyPost_ret (v := ansC null 0 (Er.refusal er)) ?_ rfl ⟨rfl, ?_⟩
    · unfold ansC null Er.refusal; rw [Vc.res_cell3 rfl]; go_simp
    · repeat' (first | exact hw1 | with_reducible exact Below.refl _ _ | with_reducible refine Below.setCell ?_ (by simp <;> omega) _ | with_reducible refine Below.alloc ?_ (by simp <;> omega) _)
/-- What getColumn answers. -/
def ColA (aN aB : Addr) (w : World) (r : Vl × Int × Int) (e : Ending) (w' : World) : Prop :=
  (∃ v k ev, e = .returned (ansC v k ev) ∧ (r.2.2 = 0 → v = r.1 ∧ k = r.2.1 ∧ ev = .nilIface) ∧ (r.2.2 ≠ 0 → IsE1 aN aB ev r.2.2)) ∧ Below w.heap.size w w'
theorem ColA.ok {aN aB : Addr} {w w' : World} {v : Vl} {k : Int} (h : Below w.heap.size w w') : ColA aN aB w (v, k, 0) (.returned (ansC v k .nilIface)) w' := ⟨⟨v, k, .nilIface, rfl, fun _ => ⟨rfl, rfl, rfl⟩, fun q => absurd rfl q⟩, h⟩
theorem ColA.bad {aN aB : Addr} {w w' : World} {r : Vl × Int × Int} {v : Vl} {k : Int} {ev : Value} (h0 : r.2.2 ≠ 0) (h1 : IsE1 aN aB ev r.2.2) (h : Below w.heap.size w w') : ColA aN aB w r (.returned (ansC v k ev)) w' := ⟨⟨v, k, ev, rfl, fun q => absurd q h0, fun _ => h1⟩, h⟩
set_option maxHeartbeats 16000000 in
theorem getColumn_any {aM aN aB : Addr} (A : Option Addr) (n c : Nat) (bs : List Int) (xs : ByteArray) (xk : Int) (xb : Bool) (w : World) (hS : Wd.Sl w .u8 A n c bs) (hB : Nm.Byt bs) (hG : Gl w aM aN aB) :
    Calls Tryd.prog 47 #[.slice A n c, .agg #[.string xs, .int .i64 xk, .bool xb]] w (ColA aN aB w (rd1 ⟨xs, xk, xb⟩ bs)) := by
  have hb1 := (Below.refl w.heap.size w).alloc (Nat.le_refl _) (.cells #[.string xs, .int .i64 xk, .bool xb] 48)
  have x1 : Cb (w.alloc (.cells #[.string xs, .int .i64 xk, .bool xb] 48)) w.heap.size xs xk xb := Wd.Bx.new w _ _
  have hb2 := (Below.refl _ (w.alloc (.cells #[.string xs, .int .i64 xk, .bool xb] 48))).alloc (Nat.le_refl _) (.cells #[.int .i64 0, .int .i64 0, .string ⟨#[]⟩, .bool false] 46)
  have v2 : Vc.Vb ((w.alloc (.cells #[.string xs, .int .i64 xk, .bool xb] 48)).alloc (.cells #[.int .i64 0, .int .i64 0, .string ⟨#[]⟩, .bool false] 46)) (w.heap.size + 1) 0 0 ⟨#[]⟩ false := by
    have := Wd.Bx.new (w.alloc (.cells #[.string xs, .int .i64 xk, .bool xb] 48)) 46 #[.int .i64 0, .int .i64 0, .string ⟨#[]⟩, .bool false]
    rw [World.size_alloc] at this
    exact this
  have x2 := x1.below (Wd.Bx.lt x1) hb2
  have hb := hb1.trans (hb2.mono hb1.size)
  have hsz : w.heap.size + 1 < ((w.alloc (.cells #[.string xs, .int .i64 xk, .bool xb] 48)).alloc (.cells #[.int .i64 0, .int .i64 0, .string ⟨#[]⟩, .bool false] 46)).heap.size := by simp
  have hsz0 : w.heap.size < ((w.alloc (.cells #[.string xs, .int .i64 xk, .bool xb] 48)).alloc (.cells #[.int .i64 0, .int .i64 0, .string ⟨#[]⟩, .bool false] 46)).heap.size := Nat.lt_of_succ_lt hsz
  have hS2 := Lib.hid (hS.below hb)
  have hG2 := hG.below hb
  have hg1 : 1 < w.heap.size := World.block_lt_of_cell? w ⟨1, 0, none⟩ hG.noMark
  have hg2 : 2 < w.heap.size := World.block_lt_of_cell? w ⟨2, 0, none⟩ hG.badMark
  have hN := hG2.noMark
  have hBd := hG2.badMark
  have Hl := Lib.hid hS.len
  have hcap := hS.cap
  have hmx := hS.max
  unfold maxLen at hmx
  unfold sent at hN hBd
  obtain ⟨p0, p1, p2⟩ := three x2
  obtain ⟨⟨u0, u1, u2, u3⟩, ⟨f0, f1, f2, f3⟩⟩ := Vc.four v2
  have Hx2 := Lib.hid x2
  have Hv2 := Lib.hid v2
  have Hb := Lib.hid hb
  clear x1 v2 x2 hb1 hb2 hb hG hG2 hS
  cases xb
  · have hr : rd1 ⟨xs, xk, false⟩ bs = Va.get bs xk := rfl
    rw [hr]
    have c1 := getValue_any A n c bs xk _ hS2.out hB
    obtain ⟨v, k, er, hg⟩ : ∃ v k er, Va.get bs xk = (v, k, er) := ⟨_, _, _, rfl⟩
    rw [hg] at c1 ⊢
    have C1 := Lib.hid c1
    clear c1 hg hr hB
    have hans : ∃ v' k' ev, (if er = 0 then ansC v k .nilIface else ansC null 0 (Er.refusal er)) = ansC v' k' ev ∧ (er = 0 → v' = v ∧ k' = k ∧ ev = .nilIface) ∧ (er ≠ 0 → IsE1 aN aB ev er) := by
      by_cases he : er = 0
      · rw [if_pos he]; exact ⟨v, k, .nilIface, rfl, fun _ => ⟨rfl, rfl, rfl⟩, fun q => absurd he q⟩
      · rw [if_neg he]; exact ⟨null, 0, _, rfl, fun q => absurd q he, fun _ => .inl rfl⟩
    obtain ⟨v', k', ev, ha, h0, h1⟩ := hans
    simp only [] at C1
    rw [ha] at C1
    have H01 := Lib.hid (And.intro h0 h1)
    clear ha h0 h1
    unfold ansC at C1
    go_enter Tryd.func47, Tryd.ntmps47
    go_wp2_with fail
    generalize (w.alloc (.cells #[.string xs, .int .i64 xk, .bool false] 48)).alloc (.cells #[.int .i64 0, .int .i64 0, .string ⟨#[]⟩, .bool false] 46) = wa at *
    refine C1.out.mono ?_
    rintro e w1 ⟨rfl, hB1⟩
    have hw1 := Hb.out.trans (hB1.mono Hb.out.size)
    clear u0 u1 u2 u3 f0 f1 f2 f3 p0 p1 p2
    obtain ⟨⟨u0, u1, u2, u3⟩, ⟨f0, f1, f2, f3⟩⟩ := Vc.four (Hv2.out.below (Wd.Bx.lt Hv2.out) hB1)
    have hlt1 : w.heap.size + 1 < w1.heap.size := Nat.lt_of_lt_of_le hsz hB1.size
    go_wp2_with fail
    (try simp only [Exit.inBlock, Exit.then])
    refine bodyPost_ret (v := ansC v' k' ev) ?_ rfl ⟨⟨v', k', ev, rfl, H01.out.1, H01.out.2⟩, ?_⟩
    · unfold ansC; rw [Vc.res_cell3 rfl]; go_simp
    · repeat' (first | exact hw1 | with_reducible exact Below.refl _ _ | with_reducible refine Below.setCell ?_ (by simp <;> omega) _ | with_reducible refine Below.alloc ?_ (by simp <;> omega) _)
  · cases bs with
    | nil =>
      obtain rfl : n = 0 := Hl.out
      have Hgl := Lib.hid (show rd1 ⟨xs, xk, true⟩ [] = (null, 0, 6) from rfl)
      rw [Hgl.out]
      go_enter Tryd.func47, Tryd.ntmps47
      go_wp2_with fail
      generalize (w.alloc (.cells #[.string xs, .int .i64 xk, .bool true] 48)).alloc (.cells #[.int .i64 0, .int .i64 0, .string ⟨#[]⟩, .bool false] 46) = wa at *
      go_region
      all_goals (
        go_wp2_with fail
        (try simp only [Exit.inBlock, Exit.then])
        refine bodyPost_ret (v := ansC null 0 (sent aN)) ?_ rfl (ColA.bad (r := (null, 0, 6)) (by decide) (.inr (.inl ⟨rfl, rfl⟩)) ?_)
        · unfold ansC null sent; rw [Vc.res_cell3 rfl]; go_simp
        · repeat' (first | exact Hb.out | exact Hb.out.drew | with_reducible exact Below.refl _ _ | with_reducible refine Below.setCell ?_ (by simp <;> omega) _ | with_reducible refine Below.alloc ?_ (by simp <;> omega) _ | with_reducible refine Below.drew ?_))
    | cons x r =>
      obtain ⟨b, o, rfl, hbB, hcell⟩ := hS2.out.rd 0 (by simp)
      rw [Nat.add_zero, List.getD_cons_zero] at hcell
      have hx := hB x (by simp)
      have hr : Nm.Byt r := fun y hy => hB y (List.mem_cons_of_mem _ hy)
      have hn1 : n = r.length + 1 := by have := Hl.out; simpa using this
      have hn0 : 0 < n := by omega
      have hn0I : (0 : Int) < (n : Int) := by omega
      have hnz : ((n : Int) == 0) = false := by simp; omega
      have Hn1 := Lib.hid hn1
      have Hr := Lib.hid hr
      have hrd : rd1 ⟨xs, xk, true⟩ (x :: r) = if 1 < x then (null, 0, 7) else if x = 0 then (null, 1, 0) else if (Va.get r xk).2.2 = 0 then ((Va.get r xk).1, (Va.get r xk).2.1 + 1, 0) else (null, 0, (Va.get r xk).2.2) := rfl
      rw [hrd]
      clear hrd hn1 hr hB
      by_cases hx1 : 1 < x
      · rw [if_pos hx1]
        have q0 : (x == 0) = false := by simp; omega
        have q1 : (x == 1) = false := by simp; omega
        clear hx1
        go_enter Tryd.func47, Tryd.ntmps47
        go_wp2_with fail
        generalize (w.alloc (.cells #[.string xs, .int .i64 xk, .bool true] 48)).alloc (.cells #[.int .i64 0, .int .i64 0, .string ⟨#[]⟩, .bool false] 46) = wa at *
        go_region
        all_goals (
          go_wp2_with fail
          (try simp only [Exit.inBlock, Exit.then])
          refine bodyPost_ret (v := ansC null 0 (sent aB)) ?_ rfl (ColA.bad (r := (null, 0, 7)) (by decide) (.inr (.inr ⟨rfl, rfl⟩)) ?_)
          · unfold ansC null sent; rw [Vc.res_cell3 rfl]; go_simp
          · repeat' (first | exact Hb.out | exact Hb.out.drew | with_reducible exact Below.refl _ _ | with_reducible refine Below.setCell ?_ (by simp <;> omega) _ | with_reducible refine Below.alloc ?_ (by simp <;> omega) _ | with_reducible refine Below.drew ?_))
      rw [if_neg hx1]
      by_cases hx0 : x = 0
      · rw [if_pos hx0]
        subst hx0
        clear hx1 hx
        go_enter Tryd.func47, Tryd.ntmps47
        go_wp2_with fail
        generalize (w.alloc (.cells #[.string xs, .int .i64 xk, .bool true] 48)).alloc (.cells #[.int .i64 0, .int .i64 0, .string ⟨#[]⟩, .bool false] 46) = wa at *
        (try simp only [Exit.inBlock, Exit.then])
        refine bodyPost_ret (v := ansC null 1 .nilIface) ?_ rfl (ColA.ok ?_)
        · unfold ansC null; rw [Vc.res_cell3 rfl]; go_simp
        · repeat' (first | exact Hb.out | exact Hb.out.drew | with_reducible exact Below.refl _ _ | with_reducible refine Below.setCell ?_ (by simp <;> omega) _ | with_reducible refine Below.alloc ?_ (by simp <;> omega) _ | with_reducible refine Below.drew ?_)
      · rw [if_neg hx0]
        obtain rfl : x = 1 := by omega
        clear hx hx0 hx1
        have hwr : ∀ k : Nat, k ≤ r.length → IntKind.i64.wrap (1 + (k : Int)) = 1 + (k : Int) := fun k hk => IntWalk.i64_in _ (by have := Hn1.out; omega)
        -- the bytes behind the first
        obtain ⟨A', hA', hS3⟩ : ∃ A', (if c = 1 then (some ⟨b, o, none⟩ : Option Addr) else (some ⟨b, o, none⟩ : Option Addr).map (·.add 1)) = A' ∧ ∀ w', Below ((w.alloc (.cells #[.string xs, .int .i64 xk, .bool true] 48)).alloc (.cells #[.int .i64 0, .int .i64 0, .string ⟨#[]⟩, .bool false] 46)).heap.size ((w.alloc (.cells #[.string xs, .int .i64 xk, .bool true] 48)).alloc (.cells #[.int .i64 0, .int .i64 0, .string ⟨#[]⟩, .bool false] 46)) w' → Wd.Sl w' .u8 A' (n - 1) (c - 1) r := ⟨_, rfl, fun w' hb => by
          have := (hS2.out.below hb).cut 1 (by omega)
          simpa using this⟩
        have c1 := fun w' hb => getValue_any A' (n - 1) (c - 1) r xk w' (hS3 w' hb) Hr.out
        obtain ⟨v, k, er, hg⟩ : ∃ v k er, Va.get r xk = (v, k, er) := ⟨_, _, _, rfl⟩
        rw [hg] at c1 ⊢
        simp only [] at c1 ⊢
        by_cases he : er = 0
        · subst he
          rw [if_pos rfl]
          simp only [if_true] at c1
          have hge := Va.get_only Hr.out xk (by rw [hg])
          obtain ⟨y, j, e, -, -, hj, -⟩ := hge
          rw [hg] at e
          obtain ⟨rfl, rfl⟩ : v = y ∧ k = (j : Int) := by cases e; exact ⟨rfl, rfl⟩
          have hwj := hwr j hj
          have C1 := Lib.hid c1
          clear c1 hg e hwr hj hS3
          rw [show (j : Int) + 1 = 1 + (j : Int) by omega]
          unfold ansC at C1
          by_cases hc : c = 1
          · subst hc
            obtain rfl : n = 1 := by omega
            rw [if_pos rfl] at hA'
            subst hA'
            go_enter Tryd.func47, Tryd.ntmps47
            go_wp2_with fail
            generalize (w.alloc (.cells #[.string xs, .int .i64 xk, .bool true] 48)).alloc (.cells #[.int .i64 0, .int .i64 0, .string ⟨#[]⟩, .bool false] 46) = wa at *
            have hlv := Wd.Bx.lt Hv2.out
            have hwaz := Hb.out.size
            have hbA : Below wa.heap.size wa (wa.alloc (.cells #[.int .i64 0, .int .i64 0, .string ⟨#[]⟩, .bool false] 46)).drew := ((Below.refl _ _).alloc (Nat.le_refl _) _).drew
            have HvA : Hid (Vc.Vb (wa.alloc (.cells #[.int .i64 0, .int .i64 0, .string ⟨#[]⟩, .bool false] 46)).drew wa.heap.size 0 0 ⟨#[]⟩ false) := Lib.hid (Wd.Bx.new wa _ _)
            have hltA : wa.heap.size < (wa.alloc (.cells #[.int .i64 0, .int .i64 0, .string ⟨#[]⟩, .bool false] 46)).drew.heap.size := by simp
            go_region_with (first | (go_at_call 58; (with_reducible refine (C1.out wa.drew (Below.refl _ _).drew).mono ?_); rintro q w3 ⟨rfl, hB3⟩; have hB4 : Below wa.heap.size wa w3 := Wd.of_drew hB3; have hw3 := Hb.out.trans (hB4.mono Hb.out.size); have hlt3 : w.heap.size + 1 < w3.heap.size := Nat.lt_of_lt_of_le hsz hB4.size; obtain ⟨⟨u0, u1, u2, u3⟩, ⟨f0, f1, f2, f3⟩⟩ := Vc.four (Hv2.out.below hlv hB4)) | (go_at_call 58; (with_reducible refine (C1.out (wa.alloc (.cells #[.int .i64 0, .int .i64 0, .string ⟨#[]⟩, .bool false] 46)).drew hbA).mono ?_); rintro q w3 ⟨rfl, hB3⟩; have hB5 := Below.trans hbA (hB3.mono hbA.size); have hB4 : Below wa.heap.size wa w3 := hB5; have hw3 := Hb.out.trans (hB4.mono Hb.out.size); have hlt3 : w.heap.size + 1 < w3.heap.size := Nat.lt_of_lt_of_le hsz hB4.size; obtain ⟨⟨u0, u1, u2, u3⟩, ⟨f0, f1, f2, f3⟩⟩ := Vc.four (Hv2.out.below hlv hB4); obtain ⟨⟨y0, y1, y2, y3⟩, ⟨g0, g1', g2', g3⟩⟩ := Vc.four (Wd.Bx.below HvA.out hltA hB3); have hlt7 : wa.heap.size < w3.heap.size := Nat.lt_of_lt_of_le hltA hB3.size))
            all_goals (
              go_wp2_with fail
              (try simp only [Exit.inBlock, Exit.then])
              refine bodyPost_ret (v := ansC v (1 + (j : Int)) .nilIface) ?_ rfl (ColA.ok ?_)
              · unfold ansC ; rw [Vc.res_cell3 rfl]; go_simp
              · repeat' (first | with_reducible exact hw3 | with_reducible exact Below.refl _ _ | with_reducible refine Below.setCell ?_ (by simp <;> omega) _ | with_reducible refine Below.alloc ?_ (by simp <;> omega) _ | with_reducible refine Below.drew ?_))
          · rw [if_neg hc, Option.map_some, Addr.add_lit] at hA'
            subst hA'
            have hc1 : 1 < c := by omega
            have hc1I : (1 : Int) < (c : Int) := by omega
            go_enter Tryd.func47, Tryd.ntmps47
            go_wp2_with fail
            generalize (w.alloc (.cells #[.string xs, .int .i64 xk, .bool true] 48)).alloc (.cells #[.int .i64 0, .int .i64 0, .string ⟨#[]⟩, .bool false] 46) = wa at *
            have hlv := Wd.Bx.lt Hv2.out
            have hwaz := Hb.out.size
            have hbA : Below wa.heap.size wa (wa.alloc (.cells #[.int .i64 0, .int .i64 0, .string ⟨#[]⟩, .bool false] 46)).drew := ((Below.refl _ _).alloc (Nat.le_refl _) _).drew
            have HvA : Hid (Vc.Vb (wa.alloc (.cells #[.int .i64 0, .int .i64 0, .string ⟨#[]⟩, .bool false] 46)).drew wa.heap.size 0 0 ⟨#[]⟩ false) := Lib.hid (Wd.Bx.new wa _ _)
            have hltA : wa.heap.size < (wa.alloc (.cells #[.int .i64 0, .int .i64 0, .string ⟨#[]⟩, .bool false] 46)).drew.heap.size := by simp
            go_region_with (first | (go_at_call 58; (with_reducible refine (C1.out wa.drew (Below.refl _ _).drew).mono ?_); rintro q w3 ⟨rfl, hB3⟩; have hB4 : Below wa.heap.size wa w3 := Wd.of_drew hB3; have hw3 := Hb.out.trans (hB4.mono Hb.out.size); have hlt3 : w.heap.size + 1 < w3.heap.size := Nat.lt_of_lt_of_le hsz hB4.size; obtain ⟨⟨u0, u1, u2, u3⟩, ⟨f0, f1, f2, f3⟩⟩ := Vc.four (Hv2.out.below hlv hB4)) | (go_at_call 58; (with_reducible refine (C1.out (wa.alloc (.cells #[.int .i64 0, .int .i64 0, .string ⟨#[]⟩, .bool false] 46)).drew hbA).mono ?_); rintro q w3 ⟨rfl, hB3⟩; have hB5 := Below.trans hbA (hB3.mono hbA.size); have hB4 : Below wa.heap.size wa w3 := hB5; have hw3 := Hb.out.trans (hB4.mono Hb.out.size); have hlt3 : w.heap.size + 1 < w3.heap.size := Nat.lt_of_lt_of_le hsz hB4.size; obtain ⟨⟨u0, u1, u2, u3⟩, ⟨f0, f1, f2, f3⟩⟩ := Vc.four (Hv2.out.below hlv hB4); obtain ⟨⟨y0, y1, y2, y3⟩, ⟨g0, g1', g2', g3⟩⟩ := Vc.four (Wd.Bx.below HvA.out hltA hB3); have hlt7 : wa.heap.size < w3.heap.size := Nat.lt_of_lt_of_le hltA hB3.size))
            all_goals (
              go_wp2_with fail
              (try simp only [Exit.inBlock, Exit.then])
              refine bodyPost_ret (v := ansC v (1 + (j : Int)) .nilIface) ?_ rfl (ColA.ok ?_)
              · unfold ansC ; rw [Vc.res_cell3 rfl]; go_simp
              · repeat' (first | with_reducible exact hw3 | with_reducible exact Below.refl _ _ | with_reducible refine Below.setCell ?_ (by simp <;> omega) _ | with_reducible refine Below.alloc ?_ (by simp <;> omega) _ | with_reducible refine Below.drew ?_))
        · rw [if_neg he]
          simp only [if_neg he] at c1
          have C1 := Lib.hid c1
          have Hne := Lib.hid he
          clear c1 hg hwr hS3 he
          unfold ansC Er.refusal null at C1
          by_cases hc : c = 1
          · subst hc
            obtain rfl : n = 1 := by omega
            rw [if_pos rfl] at hA'
            subst hA'
            go_enter Tryd.func47, Tryd.ntmps47
            go_wp2_with fail
            generalize (w.alloc (.cells #[.string xs, .int .i64 xk, .bool true] 48)).alloc (.cells #[.int .i64 0, .int .i64 0, .string ⟨#[]⟩, .bool false] 46) = wa at *
            have hlv := Wd.Bx.lt Hv2.out
            have hwaz := Hb.out.size
            have hbA : Below wa.heap.size wa (wa.alloc (.cells #[.int .i64 0, .int .i64 0, .string ⟨#[]⟩, .bool false] 46)).drew := ((Below.refl _ _).alloc (Nat.le_refl _) _).drew
            have HvA : Hid (Vc.Vb (wa.alloc (.cells #[.int .i64 0, .int .i64 0, .string ⟨#[]⟩, .bool false] 46)).drew wa.heap.size 0 0 ⟨#[]⟩ false) := Lib.hid (Wd.Bx.new wa _ _)
            have hltA : wa.heap.size < (wa.alloc (.cells #[.int .i64 0, .int .i64 0, .string ⟨#[]⟩, .bool false] 46)).drew.heap.size := by simp
            go_region_with (first | (go_at_call 58; (with_reducible refine (C1.out wa.drew (Below.refl _ _).drew).mono ?_); rintro q w3 ⟨rfl, hB3⟩; have hB4 : Below wa.heap.size wa w3 := Wd.of_drew hB3; have hw3 := Hb.out.trans (hB4.mono Hb.out.size); have hlt3 : w.heap.size + 1 < w3.heap.size := Nat.lt_of_lt_of_le hsz hB4.size; obtain ⟨⟨u0, u1, u2, u3⟩, ⟨f0, f1, f2, f3⟩⟩ := Vc.four (Hv2.out.below hlv hB4)) | (go_at_call 58; (with_reducible refine (C1.out (wa.alloc (.cells #[.int .i64 0, .int .i64 0, .string ⟨#[]⟩, .bool false] 46)).drew hbA).mono ?_); rintro q w3 ⟨rfl, hB3⟩; have hB5 := Below.trans hbA (hB3.mono hbA.size); have hB4 : Below wa.heap.size wa w3 := hB5; have hw3 := Hb.out.trans (hB4.mono Hb.out.size); have hlt3 : w.heap.size + 1 < w3.heap.size := Nat.lt_of_lt_of_le hsz hB4.size; obtain ⟨⟨u0, u1, u2, u3⟩, ⟨f0, f1, f2, f3⟩⟩ := Vc.four (Hv2.out.below hlv hB4); obtain ⟨⟨y0, y1, y2, y3⟩, ⟨g0, g1', g2', g3⟩⟩ := Vc.four (Wd.Bx.below HvA.out hltA hB3); have hlt7 : wa.heap.size < w3.heap.size := Nat.lt_of_lt_of_le hltA hB3.size))
            all_goals (
              go_wp2_with fail
              (try simp only [Exit.inBlock, Exit.then])
              refine bodyPost_ret (v := ansC null 1 (Er.refusal er)) ?_ rfl (ColA.bad (r := (null, 0, er)) Hne.out (.inl rfl) ?_)
              · unfold ansC null Er.refusal; rw [Vc.res_cell3 rfl]; go_simp
              · repeat' (first | with_reducible exact hw3 | with_reducible exact Below.refl _ _ | with_reducible refine Below.setCell ?_ (by simp <;> omega) _ | with_reducible refine Below.alloc ?_ (by simp <;> omega) _ | with_reducible refine Below.drew ?_))
          · rw [if_neg hc, Option.map_some, Addr.add_lit] at hA'
            subst hA'
            have hc1 : 1 < c := by omega
            have hc1I : (1 : Int) < (c : Int) := by omega
            go_enter Tryd.func47, Tryd.ntmps47
            go_wp2_with fail
            generalize (w.alloc (.cells #[.string xs, .int .i64 xk, .bool true] 48)).alloc (.cells #[.int .i64 0, .int .i64 0, .string ⟨#[]⟩, .bool false] 46) = wa at *
            have hlv := Wd.Bx.lt Hv2.out
            have hwaz := Hb.out.size
            have hbA : Below wa.heap.size wa (wa.alloc (.cells #[.int .i64 0, .int .i64 0, .string ⟨#[]⟩, .bool false] 46)).drew := ((Below.refl _ _).alloc (Nat.le_refl _) _).drew
            have HvA : Hid (Vc.Vb (wa.alloc (.cells #[.int .i64 0, .int .i64 0, .string ⟨#[]⟩, .bool false] 46)).drew wa.heap.size 0 0 ⟨#[]⟩ false) := Lib.hid (Wd.Bx.new wa _ _)
            have hltA : wa.heap.size < (wa.alloc (.cells #[.int .i64 0, .int .i64 0, .string ⟨#[]⟩, .bool false] 46)).drew.heap.size := by simp
            go_region_with (first | (go_at_call 58; (with_reducible refine (C1.out wa.drew (Below.refl _ _).drew).mono ?_); rintro q w3 ⟨rfl, hB3⟩; have hB4 : Below wa.heap.size wa w3 := Wd.of_drew hB3; have hw3 := Hb.out.trans (hB4.mono Hb.out.size); have hlt3 : w.heap.size + 1 < w3.heap.size := Nat.lt_of_lt_of_le hsz hB4.size; obtain ⟨⟨u0, u1, u2, u3⟩, ⟨f0, f1, f2, f3⟩⟩ := Vc.four (Hv2.out.below hlv hB4)) | (go_at_call 58; (with_reducible refine (C1.out (wa.alloc (.cells #[.int .i64 0, .int .i64 0, .string ⟨#[]⟩, .bool false] 46)).drew hbA).mono ?_); rintro q w3 ⟨rfl, hB3⟩; have hB5 := Below.trans hbA (hB3.mono hbA.size); have hB4 : Below wa.heap.size wa w3 := hB5; have hw3 := Hb.out.trans (hB4.mono Hb.out.size); have hlt3 : w.heap.size + 1 < w3.heap.size := Nat.lt_of_lt_of_le hsz hB4.size; obtain ⟨⟨u0, u1, u2, u3⟩, ⟨f0, f1, f2, f3⟩⟩ := Vc.four (Hv2.out.below hlv hB4); obtain ⟨⟨y0, y1, y2, y3⟩, ⟨g0, g1', g2', g3⟩⟩ := Vc.four (Wd.Bx.below HvA.out hltA hB3); have hlt7 : wa.heap.size < w3.heap.size := Nat.lt_of_lt_of_le hltA hB3.size))
            all_goals (
              go_wp2_with fail
              (try simp only [Exit.inBlock, Exit.then])
              refine bodyPost_ret (v := ansC null 1 (Er.refusal er)) ?_ rfl (ColA.bad (r := (null, 0, er)) Hne.out (.inl rfl) ?_)
              · unfold ansC null Er.refusal; rw [Vc.res_cell3 rfl]; go_simp
              · repeat' (first | with_reducible exact hw3 | with_reducible exact Below.refl _ _ | with_reducible refine Below.setCell ?_ (by simp <;> omega) _ | with_reducible refine Below.alloc ?_ (by simp <;> omega) _ | with_reducible refine Below.drew ?_))
end Sx
end Go.Proofs.YtdmgjeipkpbojaaDoor
