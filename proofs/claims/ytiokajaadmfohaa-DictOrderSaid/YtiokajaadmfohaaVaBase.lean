/- What the smaller functions of package value do: own, digit; a value's block; a struct result's cell. -/
import Derived.Test.YtiokajaadmfohaaProg
import Derived.Test.YtiokajaadmfohaaWords
import Derived.Test.YtiokajaadmfohaaVaMath
import Derived.Test.YtiokajaadmfohaaBox
import Derived.WalkKit
import Derived.WalkSpells
import Derived.WalkLawsBesides
import Derived.Lib.Hide
namespace Go.Proofs.Ytiokajaadmfohaa
set_option maxRecDepth 20000
open Go.RowKit
namespace Vc
open Va
/-- A value as the program holds it. -/
def ownI (k i : Int) : Int := if k = 1 then i else 0
def ownS (k : Int) (s : ByteArray) : ByteArray := if k = 2 then s else ⟨#[]⟩
def ownB (k : Int) (b : Bool) : Bool := if k = 3 then b else false

theorem res_cell1 {fn : Func} {p : Tmp} {ty : TypeId} (h : fn.results = #[.cell p ty]) (tmps : Array Value) (P : Program) (w : World) :
    (results fn tmps).run P w = ((asAddr (tmps.getD p undef)).run P w).andThen fun a w₁ => (loadVar ty a).run P w₁ := by
  simp only [results, h]
  simp [Sem.run_bind, Result.andThen]
theorem res_cell3 {fn : Func} {p u v : Tmp} {ty : TypeId} (h : fn.results = #[.cell p ty, .tmp u, .tmp v]) (tmps : Array Value) (P : Program) (w : World) :
    (results fn tmps).run P w = ((asAddr (tmps.getD p undef)).run P w).andThen fun a w₁ => ((loadVar ty a).run P w₁).andThen fun x w₂ => .ok (.tuple #[x, tmps.getD u undef, tmps.getD v undef]) w₂ := by
  simp only [results, h]
  simp [Sem.run_bind, Result.andThen]

theorem own_any (k i : Int) (s : ByteArray) (b : Bool) (w : World) :
    Calls Try.prog 36 #[.agg #[.int .i64 k, .int .i64 i, .string s, .bool b]] w fun e w' => e = .returned (.agg #[.int .i64 k, .int .i64 (ownI k i), .string (ownS k s), .bool (ownB k b)]) ∧ Below w.heap.size w w' := by
  unfold ownI ownS ownB
  by_cases h1 : k = 1
  · subst h1
    go_enter Try.func36, Try.ntmps36
    go_wp2_with fail
    (try simp only [Exit.inBlock, Exit.then])
    refine bodyPost_ret (v := .agg #[.int .i64 1, .int .i64 i, .string ⟨#[]⟩, .bool false]) ?_ rfl ⟨rfl, ?_⟩
    · rw [res_cell1 rfl]; go_simp
    · repeat' (first | exact Below.refl _ _ | refine Below.setCell ?_ (by simp) _ | refine Below.alloc ?_ (by simp <;> omega) _)
  by_cases h2 : k = 2
  · subst h2
    go_enter Try.func36, Try.ntmps36
    go_wp2_with fail
    (try simp only [Exit.inBlock, Exit.then])
    refine bodyPost_ret (v := .agg #[.int .i64 2, .int .i64 0, .string s, .bool false]) ?_ rfl ⟨rfl, ?_⟩
    · rw [res_cell1 rfl]; go_simp
    · repeat' (first | exact Below.refl _ _ | refine Below.setCell ?_ (by simp) _ | refine Below.alloc ?_ (by simp <;> omega) _)
  by_cases h3 : k = 3
  · subst h3
    go_enter Try.func36, Try.ntmps36
    go_wp2_with fail
    (try simp only [Exit.inBlock, Exit.then])
    refine bodyPost_ret (v := .agg #[.int .i64 3, .int .i64 0, .string ⟨#[]⟩, .bool b]) ?_ rfl ⟨rfl, ?_⟩
    · rw [res_cell1 rfl]; go_simp
    · repeat' (first | exact Below.refl _ _ | refine Below.setCell ?_ (by simp) _ | refine Below.alloc ?_ (by simp <;> omega) _)
  rw [if_neg h1, if_neg h2, if_neg h3]
  have q1 : (k == 1) = false := by simpa using h1
  have q2 : (k == 2) = false := by simpa using h2
  have q3 : (k == 3) = false := by simpa using h3
  go_enter Try.func36, Try.ntmps36
  go_wp2_with fail
  (try simp only [Exit.inBlock, Exit.then])
  refine bodyPost_ret (v := .agg #[.int .i64 k, .int .i64 0, .string ⟨#[]⟩, .bool false]) ?_ rfl ⟨rfl, ?_⟩
  · rw [res_cell1 rfl]; go_simp
  · repeat' (first | exact Below.refl _ _ | refine Below.setCell ?_ (by simp) _ | refine Below.alloc ?_ (by simp <;> omega) _)
/-- The byte of a truth. -/
def dg (b : Bool) : Int := if b then 1 else 0
theorem digit_any (b : Bool) (w : World) :
    Calls Try.prog 43 #[.bool b] w fun e w' => e = .returned (.int .u8 (dg b)) ∧ w' = w := by
  cases b
  · go_enter Try.func43, Try.ntmps43
    go_wp2_with fail
    go_ret
    exact ⟨rfl, rfl⟩
  · go_enter Try.func43, Try.ntmps43
    go_wp2_with fail
    go_ret
    exact ⟨rfl, rfl⟩
/-- A value's block. -/
def Vb (w : World) (g : Nat) (k i : Int) (s : ByteArray) (b : Bool) : Prop := Wd.Bx w g 24 #[.int .i64 k, .int .i64 i, .string s, .bool b]
theorem four {w : World} {g : Nat} {k i : Int} {s : ByteArray} {b : Bool} (h : Vb w g k i s b) :
    (w.cell? ⟨g, 0, none⟩ = some (.int .i64 k) ∧ w.cell? ⟨g, 1, none⟩ = some (.int .i64 i) ∧ w.cell? ⟨g, 2, none⟩ = some (.string s) ∧ w.cell? ⟨g, 3, none⟩ = some (.bool b))
    ∧ (w.frozen? ⟨g, 0, none⟩ = false ∧ w.frozen? ⟨g, 1, none⟩ = false ∧ w.frozen? ⟨g, 2, none⟩ = false ∧ w.frozen? ⟨g, 3, none⟩ = false) :=
  ⟨⟨(Wd.Bx.cell h 0).trans rfl, (Wd.Bx.cell h 1).trans rfl, (Wd.Bx.cell h 2).trans rfl, (Wd.Bx.cell h 3).trans rfl⟩, Wd.Bx.free h 0, Wd.Bx.free h 1, Wd.Bx.free h 2, Wd.Bx.free h 3⟩
/-- A value's block is written whole. -/
def setV (w : World) (g : Nat) (k i : Int) (s : ByteArray) (b : Bool) : World := (((w.setCell ⟨g, 0, none⟩ (.int .i64 k)).setCell ⟨g, 1, none⟩ (.int .i64 i)).setCell ⟨g, 2, none⟩ (.string s)).setCell ⟨g, 3, none⟩ (.bool b)
theorem Vb.set {w : World} {g : Nat} {k i k' i' : Int} {s s' : ByteArray} {b b' : Bool} (h : Vb w g k i s b) : Vb (setV w g k' i' s' b') g k' i' s' b' := by
  have h1 := heap_setCell_same w g 0 _ _ (.int .i64 k') h
  have h2 := heap_setCell_same _ g 1 _ _ (.int .i64 i') h1
  have h3 := heap_setCell_same _ g 2 _ _ (.string s') h2
  have h4 := heap_setCell_same _ g 3 _ _ (.bool b') h3
  exact h4
theorem Vb.other {w : World} {g g' : Nat} {k i k' i' : Int} {s s' : ByteArray} {b b' : Bool} (h : Vb w g k i s b) (hg : g ≠ g') : Vb (setV w g' k' i' s' b') g k i s b := by
  unfold Vb Wd.Bx setV
  rw [heap_setCell_other _ _ _ _ hg, heap_setCell_other _ _ _ _ hg, heap_setCell_other _ _ _ _ hg, heap_setCell_other _ _ _ _ hg]
  exact h
theorem below_setV {B : Nat} {w w' : World} {g : Nat} {k i : Int} {s : ByteArray} {b : Bool} (h : Below B w w') (hg : B ≤ g) : Below B w (setV w' g k i s b) :=
  (((h.setCell hg _).setCell hg _).setCell hg _).setCell hg _

end Vc
end Go.Proofs.Ytiokajaadmfohaa
