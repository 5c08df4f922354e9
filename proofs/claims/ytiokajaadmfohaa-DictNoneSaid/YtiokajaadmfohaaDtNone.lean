/- What the methods of a nil dictionary do. -/
import Derived.Test.YtiokajaadmfohaaDtOps
import Derived.Test.YtiokajaadmfohaaDcLawC
import Derived.Deep.QuietTactic
import Derived.BigQuiet
namespace Go.Proofs.Ytiokajaadmfohaa
set_option maxRecDepth 20000
open Go.RowKit
namespace Dt
open Va (Vl May ord null)
open Vc (may_any mayB mayB_iff)
open Sc (tr tr_yes tr_no tr_iff)
open Dc Dx
theorem nil_find (k i : Int) (s : ByteArray) (b : Bool) (w : World) : Calls Try.prog 15 #[.pointer none, .agg #[.int .i64 k, .int .i64 i, .string s, .bool b]] w fun e w' => e = .returned (.tuple #[.int .i64 0, .bool false]) ∧ Below w.heap.size w w' := by
  have hb0 := (Below.refl w.heap.size w).alloc (Nat.le_refl _) (.cells #[.int .i64 k, .int .i64 i, .string s, .bool b] 24)
  go_enter Try.func15, Try.ntmps15
  go_wp2_with fail
  go_ret2
  exact ⟨rfl, hb0⟩
theorem nil_len (w : World) : Calls Try.prog 14 #[.pointer none] w fun e w' => e = .returned (.int .i64 0) ∧ w' = w := by
  go_enter Try.func14, Try.ntmps14
  go_wp2_with fail
  go_ret
  exact ⟨rfl, rfl⟩
theorem nil_sorted (w : World) : Calls Try.prog 18 #[.pointer none] w (OutS w [] []) := by
  go_enter Try.func18, Try.ntmps18
  go_wp2_with fail
  go_ret2
  exact ⟨none, 0, 0, none, 0, 0, rfl, Wd.Vs.none_ _, Wd.Sl.none_ _ _, Below.refl _ _⟩
theorem nil_at (i : Int) (w : World) : Calls Try.prog 17 #[.pointer none, .int .i64 i] w fun e w' => e = .returned (.tuple #[ag null, .bool false]) ∧ Below w.heap.size w w' := by
  have hb0 := (Below.refl w.heap.size w).alloc (Nat.le_refl _) (.cells #[.int .i64 0, .int .i64 0, .string ⟨#[]⟩, .bool false] 24)
  have C := Lib.hid nil_len
  by_cases h0 : i < 0
  · go_enter Try.func17, Try.ntmps17
    go_wp2_with fail
    (try simp only [Exit.inBlock, Exit.then])
    refine bodyPost_ret (v := .tuple #[.agg #[.int .i64 0, .int .i64 0, .string ⟨#[]⟩, .bool false], .bool false]) ?_ rfl ⟨rfl, ?_⟩
    · rw [res_cell2 rfl]; go_simp
    · first | exact hb0 | exact (Below.refl _ _).alloc (Nat.le_refl _) _
  · have h1 : 0 ≤ i := by omega
    clear h0
    go_enter Try.func17, Try.ntmps17
    go_wp2_with fail
    refine (C.out _).mono ?_
    rintro e' w' ⟨rfl, rfl⟩
    go_wp2_with fail
    (try simp only [Exit.inBlock, Exit.then])
    refine bodyPost_ret (v := .tuple #[.agg #[.int .i64 0, .int .i64 0, .string ⟨#[]⟩, .bool false], .bool false]) ?_ rfl ⟨rfl, ?_⟩
    · rw [res_cell2 rfl]; go_simp
    · first | exact hb0 | exact (Below.refl _ _).alloc (Nat.le_refl _) _
set_option maxHeartbeats 1000000 in
theorem nil_add (k i : Int) (s : ByteArray) (b : Bool) (w : World) : Calls Try.prog 12 #[.pointer none, .agg #[.int .i64 k, .int .i64 i, .string s, .bool b]] w fun e w' => e = .returned (.tuple #[.int .i64 0, .int .i64 (if tr (May ⟨k, i, s, b⟩) = true then 4 else 1)]) ∧ Below w.heap.size w w' := by
  have hb0 := (Below.refl w.heap.size w).alloc (Nat.le_refl _) (.cells #[.int .i64 k, .int .i64 i, .string s, .bool b] 24)
  have x0 : Vc.Vb (w.alloc (.cells #[.int .i64 k, .int .i64 i, .string s, .bool b] 24)) w.heap.size k i s b := Wd.Bx.new w _ _
  have Cm := may_any k i s b (w.alloc (.cells #[.int .i64 k, .int .i64 i, .string s, .bool b] 24))
  have hm : mayB k i s b = tr (May ⟨k, i, s, b⟩) := by rw [Bool.eq_iff_iff, mayB_iff, tr_iff]
  rw [hm] at Cm
  have Cf := Lib.hid fun w => nil_find k i s b w
  generalize tr (May ⟨k, i, s, b⟩) = mb at *
  have Cm := Lib.hid Cm
  have Hx0 := Lib.hid x0
  clear x0 hm
  cases mb
  · go_enter Try.func12, Try.ntmps12
    obtain ⟨⟨y0, y1, y2, y3⟩, -⟩ := Vc.four Hx0.out
    go_wp2_with fail
    refine Cm.out.mono ?_
    rintro e w1 ⟨rfl, hB1⟩
    have hb1 := hb0.trans (hB1.mono hb0.size)
    go_wp2_with fail
    go_ret2
    exact ⟨rfl, hb1⟩
  · go_enter Try.func12, Try.ntmps12
    obtain ⟨⟨y0, y1, y2, y3⟩, -⟩ := Vc.four Hx0.out
    go_wp2_with fail
    generalize w.alloc (.cells #[.int .i64 k, .int .i64 i, .string s, .bool b] 24) = wa at *
    refine Cm.out.mono ?_
    rintro e w1 ⟨rfl, hB1⟩
    have hb1 := hb0.trans (hB1.mono hb0.size)
    have Hx1 := Lib.hid (Hx0.out.below (Wd.Bx.lt Hx0.out) hB1)
    clear y0 y1 y2 y3 Cm Hx0 hB1 hb0
    obtain ⟨⟨y0, y1, y2, y3⟩, -⟩ := Vc.four Hx1.out
    go_wp2_with fail
    refine (Cf.out _).mono ?_
    rintro e w2 ⟨rfl, hB2⟩
    have hb2 := hb1.trans (hB2.mono hb1.size)
    go_wp2_with fail
    go_quiet (fail)
    go_wp2_with fail
    go_ret2
    exact ⟨rfl, Wd.below_drewN hb2 _⟩
/-- A nil dictionary, as the statements ask. -/
theorem ifcN : IfcN :=
  ⟨fun v w _ => nil_add v.kind v.i v.s v.b w, fun v w _ => nil_find v.kind v.i v.s v.b w, nil_at, fun w => (nil_len w).mono fun _ _ h => ⟨h.1, by rw [h.2]; exact Below.refl _ _⟩, nil_sorted⟩
end Dt
end Go.Proofs.Ytiokajaadmfohaa
