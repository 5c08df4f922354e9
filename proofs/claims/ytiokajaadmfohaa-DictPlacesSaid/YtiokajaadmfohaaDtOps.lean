/- What New, Len, Find, At of package dict do. -/
import Derived.Test.YtiokajaadmfohaaDtMem
import Derived.WalkKit
import Derived.WalkSpells
import Derived.Maps.OwnSet
namespace Go.Proofs.Ytiokajaadmfohaa
set_option maxRecDepth 20000
open Go.RowKit Go.Maps
namespace Dt
open Va (Vl May ord null)
open Dc Dx
/-- A pointer to block b. -/
abbrev pt (b : Nat) : Value := .pointer (some ⟨b, 0, none⟩)
theorem own_shape {w : World} {B : Nat} {e : TypeId} {size : Nat} {v : Value} {n : Nat} {xs : List Value} (h : w.ownsRow B e size v n xs) : ∃ A c, v = .slice A n c := by
  rcases h.2 with ⟨rfl, h0⟩ | ⟨g, cap, cur, rfl, _⟩
  · exact ⟨none, 0, by rw [h0]⟩
  · exact ⟨_, _, rfl⟩
theorem zeroI (w : World) : (zeroValue 3).run Try.prog w = .ok (.int .i64 0) w := by kernel_rfl
theorem res_cell2 {fn : Func} {p u : Tmp} {ty : TypeId} (h : fn.results = #[.cell p ty, .tmp u]) (tmps : Array Value) (P : Program) (w : World) :
    (results fn tmps).run P w = ((asAddr (tmps.getD p undef)).run P w).andThen fun a w₁ => ((loadVar ty a).run P w₁).andThen fun x w₂ => .ok (.tuple #[x, tmps.getD u undef]) w₂ := by
  simp only [results, h]
  simp [Sem.run_bind, Result.andThen]
section
variable {w : World} {d m : Nat} {v : Value} {L : List Vl} {k : Int} {G : Nat → Prop}
theorem new_any (k : Int) (w : World) : Calls Try.prog 11 #[.int .i64 k] w fun e w' => ∃ d G, e = .returned (pt d) ∧ D w' d [] k G ∧ Below w.heap.size w w' ∧ ∀ g, G g → w.heap.size ≤ g := by
  have hmm := @run_makeMap Try.prog
  have key : ∀ l : Int, l = lim k → Calls Try.prog 11 #[.int .i64 k] w fun e w' => e = .returned (pt (w.heap.size + 1)) ∧ w' = (w.alloc (.map #[] 0)).alloc (.cells #[.int .i64 l, .map (some w.heap.size), .slice none 0 0] 55) := by
    intro l hl
    have Hl := Lib.hid hl
    clear hl
    go_enter Try.func11, Try.ntmps11
    go_wp2_with fail
    case inl =>
      go_ret
      rw [show l = 4096 by rw [Hl.out]; unfold lim; split <;> (try split) <;> omega]
      exact ⟨rfl, rfl⟩
    case inr.inl =>
      go_ret
      rw [show l = k by rw [Hl.out]; unfold lim; split <;> (try split) <;> omega]
      exact ⟨rfl, rfl⟩
    case inr.inr =>
      go_ret
      rw [show l = 0 by rw [Hl.out]; unfold lim; split <;> (try split) <;> omega]
      exact ⟨rfl, rfl⟩
  refine (key _ rfl).mono ?_
  rintro e w' ⟨rfl, rfl⟩
  have hb1 := (Below.refl w.heap.size w).alloc (Nat.le_refl _) (.map #[] 0)
  refine ⟨w.heap.size + 1, _, rfl, ⟨w.heap.size, .slice none 0 0, Lay.new ?_ ?_⟩, hb1.alloc hb1.size _, ?_⟩
  · have := Wd.Bx.new (w.alloc (.map #[] 0)) 55 #[.int .i64 (lim k), .map (some w.heap.size), .slice none 0 0]
    simpa using this
  · exact (World.ownsMap_made w Try.prog 24 _).alloc _
  · rintro g (rfl | rfl) <;> omega
theorem len_any (h : Lay w d m v L k G) : Calls Try.prog 14 #[pt d] w fun e w' => e = .returned (.int .i64 (L.length : Int)) ∧ w' = w := by
  obtain ⟨A, c, rfl⟩ := own_shape h.row
  have c2 := h.box.cell 2
  simp at c2
  go_enter Try.func14, Try.ntmps14
  go_wp2_with fail
  go_ret
  exact ⟨rfl, rfl⟩
set_option maxHeartbeats 1000000 in
theorem find_any (x : Vl) (h : Lay w d m v L k G) (hd : Dis L k) (ho : ∀ y ∈ L, Okv y) (hx : Okv x) :
    Calls Try.prog 15 #[pt d, .agg #[.int .i64 x.kind, .int .i64 x.i, .string x.s, .bool x.b]] w fun e w' => e = .returned (.tuple #[.int .i64 (if x ∈ L then fnd L x else 0), .bool (decide (x ∈ L))]) ∧ Below w.heap.size w w' := by
  have hb0 := (Below.refl w.heap.size w).alloc (Nat.le_refl _) (.cells #[.int .i64 x.kind, .int .i64 x.i, .string x.s, .bool x.b] 24)
  have x0 : Vc.Vb (w.alloc (.cells #[.int .i64 x.kind, .int .i64 x.i, .string x.s, .bool x.b] 24)) w.heap.size x.kind x.i x.s x.b := Wd.Bx.new w _ _
  have h1 := h.below hb0
  have c1 := h1.box.cell 1
  simp at c1
  have hrun : (Instr.lookup 53 (.map (some m)) (.agg #[.int .i64 x.kind, .int .i64 x.i, .string x.s, .bool x.b]) true).run Try.prog (w.alloc (.cells #[.int .i64 x.kind, .int .i64 x.i, .string x.s, .bool x.b] 24)).drew = .ok (.tuple #[.int .i64 (if x ∈ L then fnd L x else 0), .bool (decide (x ∈ L))]) (w.alloc (.cells #[.int .i64 x.kind, .int .i64 x.i, .string x.s, .bool x.b] 24)).drew := by
    obtain ⟨v', ps, hr, hv⟩ := h1.own.drew.look_ok Dm.law Try.underlying53 (zeroI _) (plainElem_int Try.underlying3 (by decide)) (Dm.key_of hx.1 hx.2)
    obtain ⟨c, rfl, hc, _⟩ := plainElem_int_inv Try.underlying3 hv
    have hc1 := congrArg Prod.fst hc
    simp only [] at hc1
    rw [Dm.Dd_at (fun y hy => ho y hy) hd.nd hx] at hc1
    rw [hr, Dm.Dd_has (fun y hy => ho y hy) hx]
    have : c = if x ∈ L then fnd L x else 0 := by
      by_cases q : x ∈ L
      · rw [if_pos q] at hc1 ⊢
        cases hc1
        rfl
      · rw [if_neg q] at hc1 ⊢
        cases hc1
        rfl
    rw [this]
  obtain ⟨N, hN⟩ : ∃ N, N = if x ∈ L then fnd L x else 0 := ⟨_, rfl⟩
  obtain ⟨B, hB⟩ : ∃ B, B = decide (x ∈ L) := ⟨_, rfl⟩
  rw [← hN, ← hB] at hrun ⊢
  clear hN hB h h1 hd ho hx
  go_enter Try.func15, Try.ntmps15
  go_wp2_with fail
  generalize w.alloc (.cells #[.int .i64 x.kind, .int .i64 x.i, .string x.s, .bool x.b] 24) = wa at *
  obtain ⟨⟨y0, y1, y2, y3⟩, -⟩ := Vc.four x0
  go_region
  all_goals (
    go_wp2_with fail
    go_ret2
    exact ⟨rfl, hb0.drew⟩)
set_option maxHeartbeats 1000000 in
theorem at_any (i : Int) (h : Lay w d m v L k G) (ho : ∀ y ∈ L, Okv y) :
    Calls Try.prog 17 #[pt d, .int .i64 i] w fun e w' => e = .returned (.tuple #[ag (if 0 ≤ i ∧ i < L.length then L.getD i.toNat default else null), .bool (decide (0 ≤ i ∧ i < L.length))]) ∧ Below w.heap.size w w' := by
  have hb0 := (Below.refl w.heap.size w).alloc (Nat.le_refl _) (.cells #[.int .i64 0, .int .i64 0, .string ⟨#[]⟩, .bool false] 24)
  have x0 : Vc.Vb (w.alloc (.cells #[.int .i64 0, .int .i64 0, .string ⟨#[]⟩, .bool false] 24)) w.heap.size 0 0 ⟨#[]⟩ false := Wd.Bx.new w _ _
  have h1 := h.below hb0
  obtain ⟨A, n, c, hv, hV⟩ := h1.vs ho
  have c2 := h1.box.cell 2
  simp at c2
  rw [hv] at c2
  have C := Lib.hid (len_any h1)
  have Hm := Lib.hid hV.len
  clear hv h h1
  by_cases h0 : i < 0
  · have e1 : ¬ (0 ≤ i ∧ i < L.length) := by omega
    rw [if_neg e1, decide_eq_false e1]
    clear e1
    go_enter Try.func17, Try.ntmps17
    go_wp2_with fail
    (try simp only [Exit.inBlock, Exit.then])
    refine bodyPost_ret (v := .tuple #[.agg #[.int .i64 0, .int .i64 0, .string ⟨#[]⟩, .bool false], .bool false]) ?_ rfl ⟨rfl, ?_⟩
    · rw [res_cell2 rfl]; go_simp
    · first | exact hb0 | exact (Below.refl _ _).alloc (Nat.le_refl _) _
  obtain ⟨p, rfl⟩ : ∃ p : Nat, i = (p : Int) := ⟨i.toNat, by omega⟩
  by_cases hp : p < n
  · have e1 : 0 ≤ (p : Int) ∧ (p : Int) < L.length := by have := Hm.out; omega
    have hpl : p < L.length := by omega
    obtain ⟨e, f, hR, heB, d0, d1, d2, d3, _⟩ := hV.cells (j := p) hpl rfl
    subst hR
    rw [if_pos e1, decide_eq_true e1, Int.toNat_natCast]
    generalize L.getD p default = x at *
    have hcap := hV.cap
    clear e1 hV
    rw [← Hm.out] at C hpl
    have hpI : (p : Int) < (n : Int) := by omega
    go_enter Try.func17, Try.ntmps17
    go_wp2_with fail
    refine C.out.mono ?_
    rintro e' w' ⟨rfl, rfl⟩
    go_wp2_with fail
    (try simp only [Exit.inBlock, Exit.then])
    refine bodyPost_ret (v := .tuple #[.agg #[.int .i64 x.kind, .int .i64 x.i, .string x.s, .bool x.b], .bool true]) ?_ rfl ⟨rfl, ?_⟩
    · rw [res_cell2 rfl]; go_simp
    · first | exact hb0 | exact (Below.refl _ _).alloc (Nat.le_refl _) _
  · have e1 : ¬ (0 ≤ (p : Int) ∧ (p : Int) < L.length) := by have := Hm.out; omega
    rw [if_neg e1, decide_eq_false e1]
    rw [← Hm.out] at C
    have hpI : ¬ (p : Int) < (n : Int) := by omega
    clear e1
    go_enter Try.func17, Try.ntmps17
    go_wp2_with fail
    refine C.out.mono ?_
    rintro e' w' ⟨rfl, rfl⟩
    go_wp2_with fail
    (try simp only [Exit.inBlock, Exit.then])
    refine bodyPost_ret (v := .tuple #[.agg #[.int .i64 0, .int .i64 0, .string ⟨#[]⟩, .bool false], .bool false]) ?_ rfl ⟨rfl, ?_⟩
    · rw [res_cell2 rfl]; go_simp
    · first | exact hb0 | exact (Below.refl _ _).alloc (Nat.le_refl _) _
end
end Dt
end Go.Proofs.Ytiokajaadmfohaa
