/- What isColumn, isFilled, isFilledWith, mayKey and the reference's whole do. -/
import Derived.Test.YtdmgjeipkpbojaaDoorScName
namespace Go.Proofs.YtdmgjeipkpbojaaDoor
set_option maxRecDepth 20000
open Go.RowKit
namespace Sx
open Sc (Col Sch nameOk sgn tr tr_yes tr_no whole whole1 MayK whole_get whole1_get)
/-- A schema's value. -/
theorem isColumn_any (A : Option Addr) (n c : Nat) (s : Sch) (i : Int) (w : World) (hS : Wd.Cs w A n c s.cols) :
    Calls Tryd.prog 28 #[.agg #[.slice A n c, .int .i64 s.key, .int .i64 s.cmp, .int .i64 s.del, .int .i64 s.sort], .int .i64 i] w fun e w' => e = .returned (.bool (decide (0 ≤ i ∧ i < s.cols.length))) ∧ Below w.heap.size w w' := by
  rw [← hS.len]
  clear hS
  by_cases h0 : 0 ≤ i
  · by_cases h1 : i < n
    · rw [decide_eq_true ⟨h0, h1⟩]
      go_enter Tryd.func28, Tryd.ntmps28
      go_wp2_with fail
      go_ret
      exact ⟨rfl, (Below.refl _ _).alloc (Nat.le_refl _) _⟩
    · rw [decide_eq_false (fun h => h1 h.2)]
      go_enter Tryd.func28, Tryd.ntmps28
      go_wp2_with fail
      go_ret
      exact ⟨rfl, (Below.refl _ _).alloc (Nat.le_refl _) _⟩
  · rw [decide_eq_false (fun h => h0 h.1)]
    go_enter Tryd.func28, Tryd.ntmps28
    go_wp2_with fail
    go_ret
    exact ⟨rfl, (Below.refl _ _).alloc (Nat.le_refl _) _⟩
set_option maxHeartbeats 1000000 in
theorem isFilled_any (A : Option Addr) (n c : Nat) (s : Sch) (i : Int) (w : World) (hS : Wd.Cs w A n c s.cols) :
    Calls Tryd.prog 44 #[.agg #[.slice A n c, .int .i64 s.key, .int .i64 s.cmp, .int .i64 s.del, .int .i64 s.sort], .int .i64 i] w fun e w' => e = .returned (.bool (tr (whole s i))) ∧ Below w.heap.size w w' := by
  have hb0 := (Below.refl w.heap.size w).alloc (Nat.le_refl _) (.cells #[.slice A n c, .int .i64 s.key, .int .i64 s.cmp, .int .i64 s.del, .int .i64 s.sort] 24)
  have s0 : Sb (w.alloc (.cells #[.slice A n c, .int .i64 s.key, .int .i64 s.cmp, .int .i64 s.del, .int .i64 s.sort] 24)) w.heap.size A n c s.key s.cmp s.del s.sort := Wd.Bx.new w _ _
  have Cc := Lib.hid (isColumn_any A n c s i _ (hS.below hb0))
  have Hl := Lib.hid hS.len
  have HS := Lib.hid (hS.below hb0)
  clear hS
  by_cases h : 0 ≤ i ∧ i < s.cols.length
  · rw [decide_eq_true h] at Cc
    obtain ⟨h0, h1⟩ := h
    have h1' : i < (n : Int) := by rw [Hl.out]; exact h1
    obtain ⟨k, rfl⟩ : ∃ k : Nat, i = k := ⟨i.toNat, by omega⟩
    obtain ⟨b, o, hA, hbB, c0, c1, c2, _⟩ := HS.out.cells (j := k) (by omega) rfl
    subst hA
    obtain ⟨x, hx⟩ : ∃ x, x = s.cols.getD k default := ⟨_, rfl⟩
    rw [← hx] at c0 c1 c2
    have ht : tr (whole s k) = !x.nul := by
      cases q : x.nul
      · exact tr_yes ((whole_get s k).2 ⟨by omega, h1, by rw [Int.toNat_natCast, ← hx]; exact q⟩)
      · exact tr_no fun h => by
          have := ((whole_get s k).1 h).2.2
          rw [Int.toNat_natCast, ← hx, q] at this
          cases this
    rw [ht]
    clear ht hx h0 h1
    generalize x.nul = q at *
    go_enter Tryd.func44, Tryd.ntmps44
    go_wp2_with fail
    refine Cc.out.mono ?_
    rintro e w1 ⟨rfl, hB1⟩
    generalize w.alloc (.cells #[.slice (some ⟨b, o, none⟩) n c, .int .i64 s.key, .int .i64 s.cmp, .int .i64 s.del, .int .i64 s.sort] 24) = wa at *
    obtain ⟨q0, -, -, -, -⟩ := five (s0.below (Wd.Bx.lt s0) hB1)
    have c2' := (hB1.cell (p := ⟨b, o + k * 3 + 2, none⟩) hbB).trans c2
    clear c0 c1 c2 s0
    go_wp2_with fail
    go_ret
    exact ⟨rfl, hb0.trans (hB1.mono hb0.size)⟩
  · rw [decide_eq_false h] at Cc
    have ht : tr (whole s i) = false := tr_no fun q => h ⟨((whole_get s i).1 q).1, ((whole_get s i).1 q).2.1⟩
    rw [ht]
    clear ht h
    go_enter Tryd.func44, Tryd.ntmps44
    go_wp2_with fail
    refine Cc.out.mono ?_
    rintro e w1 ⟨rfl, hB1⟩
    go_wp2_with fail
    go_ret
    exact ⟨rfl, hb0.trans (hB1.mono hb0.size)⟩
set_option maxHeartbeats 1000000 in
theorem isFilledWith_any (A : Option Addr) (n c : Nat) (s : Sch) (i kd : Int) (w : World) (hS : Wd.Cs w A n c s.cols) :
    Calls Tryd.prog 45 #[.agg #[.slice A n c, .int .i64 s.key, .int .i64 s.cmp, .int .i64 s.del, .int .i64 s.sort], .int .i64 i, .int .i64 kd] w fun e w' => e = .returned (.bool (tr (whole1 s i kd))) ∧ Below w.heap.size w w' := by
  have hb0 := (Below.refl w.heap.size w).alloc (Nat.le_refl _) (.cells #[.slice A n c, .int .i64 s.key, .int .i64 s.cmp, .int .i64 s.del, .int .i64 s.sort] 24)
  have s0 : Sb (w.alloc (.cells #[.slice A n c, .int .i64 s.key, .int .i64 s.cmp, .int .i64 s.del, .int .i64 s.sort] 24)) w.heap.size A n c s.key s.cmp s.del s.sort := Wd.Bx.new w _ _
  have Cc := Lib.hid (isFilled_any A n c s i _ (hS.below hb0))
  have Hl := Lib.hid hS.len
  have HS := Lib.hid (hS.below hb0)
  clear hS
  by_cases h : whole s i
  · rw [tr_yes h] at Cc
    obtain ⟨h0, h1, -⟩ := (whole_get s i).1 h
    have Hw := Lib.hid h
    clear h
    have h1' : i < (n : Int) := by rw [Hl.out]; exact h1
    obtain ⟨k, rfl⟩ : ∃ k : Nat, i = k := ⟨i.toNat, by omega⟩
    obtain ⟨b, o, hA, hbB, c0, c1, c2, _⟩ := HS.out.cells (j := k) (by omega) rfl
    subst hA
    obtain ⟨x, hx⟩ : ∃ x, x = s.cols.getD k default := ⟨_, rfl⟩
    rw [← hx] at c0 c1 c2
    have ht : tr (whole1 s k kd) = (x.kind == kd) := by
      by_cases q : x.kind = kd
      · rw [tr_yes ((whole1_get s k kd).2 ⟨Hw.out, by rw [Int.toNat_natCast, ← hx]; exact q⟩)]
        simp [q]
      · rw [tr_no fun h => q (by have := ((whole1_get s k kd).1 h).2; rw [Int.toNat_natCast, ← hx] at this; exact this)]
        simp [q]
    rw [ht]
    clear ht hx h0 h1
    generalize x.kind = q at *
    go_enter Tryd.func45, Tryd.ntmps45
    go_wp2_with fail
    refine Cc.out.mono ?_
    rintro e w1 ⟨rfl, hB1⟩
    generalize w.alloc (.cells #[.slice (some ⟨b, o, none⟩) n c, .int .i64 s.key, .int .i64 s.cmp, .int .i64 s.del, .int .i64 s.sort] 24) = wa at *
    obtain ⟨q0, -, -, -, -⟩ := five (s0.below (Wd.Bx.lt s0) hB1)
    have c1' := (hB1.cell (p := ⟨b, o + k * 3 + 1, none⟩) hbB).trans c1
    clear c0 c1 c2 s0
    go_wp2_with fail
    go_ret
    exact ⟨rfl, hb0.trans (hB1.mono hb0.size)⟩
  · rw [tr_no h] at Cc
    have ht : tr (whole1 s i kd) = false := tr_no fun q => h ((whole1_get s i kd).1 q).1
    rw [ht]
    clear ht h
    go_enter Tryd.func45, Tryd.ntmps45
    go_wp2_with fail
    refine Cc.out.mono ?_
    rintro e w1 ⟨rfl, hB1⟩
    go_wp2_with fail
    go_ret
    exact ⟨rfl, hb0.trans (hB1.mono hb0.size)⟩
/-- Key, Cmp and Del, as the machine tells it. -/
theorem mayK_b (s : Sch) : tr (MayK s) = if s.key = -1 then (s.cmp == -1 && s.del == -1) else (tr (whole s s.key) && (tr (whole1 s s.cmp 1) && (s.del == -1 || tr (whole1 s s.del 3)))) := by
  rw [Bool.eq_iff_iff, Sc.tr_iff]
  unfold MayK
  split
  · rename_i h; simp [h]
  · rename_i h; simp [h, Sc.tr_iff]
set_option maxHeartbeats 2000000 in
theorem mayKey_any (A : Option Addr) (n c : Nat) (s : Sch) (w : World) (hS : Wd.Cs w A n c s.cols) :
    Calls Tryd.prog 27 #[.agg #[.slice A n c, .int .i64 s.key, .int .i64 s.cmp, .int .i64 s.del, .int .i64 s.sort]] w fun e w' => e = .returned (.bool (tr (MayK s))) ∧ Below w.heap.size w w' := by
  rw [mayK_b]
  have hb0 := (Below.refl w.heap.size w).alloc (Nat.le_refl _) (.cells #[.slice A n c, .int .i64 s.key, .int .i64 s.cmp, .int .i64 s.del, .int .i64 s.sort] 24)
  have s0 : Sb (w.alloc (.cells #[.slice A n c, .int .i64 s.key, .int .i64 s.cmp, .int .i64 s.del, .int .i64 s.sort] 24)) w.heap.size A n c s.key s.cmp s.del s.sort := Wd.Bx.new w _ _
  have Cf := Lib.hid fun w' hb => isFilled_any A n c s s.key w' (hS.below (w' := w') hb)
  have Cc := Lib.hid fun w' hb => isFilledWith_any A n c s s.cmp 1 w' (hS.below (w' := w') hb)
  have Cd := Lib.hid fun w' hb => isFilledWith_any A n c s s.del 3 w' (hS.below (w' := w') hb)
  clear hS
  generalize s.key = key at *
  generalize s.cmp = cmp at *
  generalize s.del = del at *
  generalize s.sort = sort at *
  by_cases hk : key = -1
  · subst hk
    rw [if_pos rfl]
    by_cases hp : cmp = -1
    · subst hp
      go_enter Tryd.func27, Tryd.ntmps27
      go_wp2_with fail
      go_ret
      exact ⟨by simp, hb0⟩
    · have qp : (cmp == -1) = false := by simpa using hp
      rw [qp]
      clear hp
      go_enter Tryd.func27, Tryd.ntmps27
      go_wp2_with fail
      go_ret
      exact ⟨by simp, hb0⟩
  · rw [if_neg hk]
    have qk : (key == -1) = false := by simpa using hk
    have hz := hb0.size
    generalize tr (whole s key) = r1 at *
    generalize tr (whole1 s cmp 1) = r2 at *
    generalize tr (whole1 s del 3) = r3 at *
    clear hk
    have s0' := Lib.hid s0
    clear s0
    go_enter Tryd.func27, Tryd.ntmps27
    go_wp2_with fail
    refine (Cf.out _ hb0).mono ?_
    rintro e w1 ⟨rfl, hB1⟩
    generalize w.alloc (.cells #[.slice A n c, .int .i64 key, .int .i64 cmp, .int .i64 del, .int .i64 sort] 24) = wa at *
    have s1 := s0'.out.below (Wd.Bx.lt s0'.out) hB1
    have hb1 := hb0.trans (hB1.mono hb0.size)
    obtain ⟨q0, q1, q2, q3, q4⟩ := five s1
    cases r1
    · go_wp2_with fail
      go_ret
      exact ⟨rfl, hb1⟩
    · go_wp2_with fail
      refine (Cc.out _ hb1).mono ?_
      rintro e w2 ⟨rfl, hB2⟩
      have s2 := s1.below (Wd.Bx.lt s1) hB2
      have hb2 := hb1.trans (hB2.mono hb1.size)
      clear q0 q1 q2 q3 q4 s0'
      obtain ⟨q0, q1, q2, q3, q4⟩ := five s2
      cases r2
      · go_wp2_with fail
        go_ret
        exact ⟨rfl, hb2⟩
      · by_cases hd : del = -1
        · subst hd
          go_wp2_with fail
          go_ret
          exact ⟨rfl, hb2⟩
        · have qd : (del == -1) = false := by simpa using hd
          clear hd
          go_wp2_with fail
          refine (Cd.out _ hb2).mono ?_
          rintro e w3 ⟨rfl, hB3⟩
          go_wp2_with fail
          go_ret
          exact ⟨by simp [qd], hb2.trans (hB3.mono hb2.size)⟩
end Sx
end Go.Proofs.YtdmgjeipkpbojaaDoor
