/- What the condition on the package-level variables gives a walk: three sentinels, each another, and the handle of the type error. -/
import Derived.Test.YtdmgjeipkpbojaaDoorScErr
import Derived.Test.YtdmgjeipkpbojaaDoorRows
import Derived.LaidHandle
import Derived.Stop.LaidTwo
import Derived.Stop.Joined
namespace Go.Proofs.YtdmgjeipkpbojaaDoor
set_option maxRecDepth 20000
open Go.ChangeShapes Go.WideShapes Go.RowKit Go.Extern.Stop Go.Stop Go.Extern
namespace Er
theorem gN : Tryd.prog.globalNamed "winnower/schema.errNoMark" = some 1 := by kernel_rfl
theorem gB : Tryd.prog.globalNamed "winnower/schema.errBadMark" = some 2 := by kernel_rfl
theorem gM : Tryd.prog.globalNamed "winnower/schema.errMore" = some 0 := by kernel_rfl
theorem gT : Tryd.prog.globalNamed "errors.errorType" = some 3 := by kernel_rfl
theorem tN : (Tryd.prog.globals[1]?).map (·.type) = some 58 := by kernel_rfl
theorem tB : (Tryd.prog.globals[2]?).map (·.type) = some 58 := by kernel_rfl
theorem tM : (Tryd.prog.globals[0]?).map (·.type) = some 58 := by kernel_rfl
theorem star : "*" ++ "errors.errorString" = "*errors.errorString" := by decide
theorem rowS (u : TypeId) (h : Tryd.prog.typeName? 3 u = some "*errors.errorString") : u = 127 :=
  typeName_ptr_named (nm := "errors.errorString") (by rw [star]; kernel_rfl) (by kernel_rfl) (by decide) u (by rw [star]; exact h)
theorem rt : (Tryd.prog.cutTypes.find? (·.1 == "internal/reflectlite.rtype")).map (·.2) = some 107 := by kernel_rfl
theorem oneRow : ((List.range Tryd.prog.types.size).filter fun t => Tryd.prog.rowNamed t [101, 114, 114, 111, 114]) = [58] := by kernel_rfl
theorem handle : typeHandle Tryd.prog 58 = .pointer (some ⟨4, 58, none⟩) := by kernel_rfl
theorem cellsS : Tryd.prog.cellsOf 149 = 1 := by kernel_rfl
theorem cellsT : Tryd.prog.cellsOf 9 = 1 := by kernel_rfl
/-- Three sentinels of a list, each another: the first against both. -/
theorem sentinels3 {n0 n1 n2 : String} {text0 text1 text2 : List UInt8} {r : List (String × DataW Unit)} {W : World} {g0 g1 g2 : Nat}
    (h : laidMet Tryd.prog ((n0, .iface "*errors.errorString" (.ptr (.agg [.lit (.string text0)]))) :: (n1, .iface "*errors.errorString" (.ptr (.agg [.lit (.string text1)]))) :: (n2, .iface "*errors.errorString" (.ptr (.agg [.lit (.string text2)]))) :: r) W)
    (hg0 : Tryd.prog.globalNamed n0 = some g0) (ht0 : (Tryd.prog.globals[g0]?).map (·.type) = some 58) (hg1 : Tryd.prog.globalNamed n1 = some g1) (ht1 : (Tryd.prog.globals[g1]?).map (·.type) = some 58)
    (hg2 : Tryd.prog.globalNamed n2 = some g2) (ht2 : (Tryd.prog.globals[g2]?).map (·.type) = some 58) :
    ∃ (a0 a1 a2 : Addr), W.cell? ⟨g0, 0, none⟩ = some (sent a0) ∧ W.cell? ⟨g1, 0, none⟩ = some (sent a1) ∧ W.cell? ⟨g2, 0, none⟩ = some (sent a2) ∧ a1 ≠ a0 ∧ a2 ≠ a0 ∧
      (∃ cs t, W.heap[a0.block]? = some (.cells cs t (0, 0))) ∧ (∃ cs t, W.heap[a1.block]? = some (.cells cs t (0, 0))) ∧ (∃ cs t, W.heap[a2.block]? = some (.cells cs t (0, 0))) := by
  obtain ⟨ps, ⟨g0', t0', cs0, f0, p0, q0, hg0', ht0', hv0, hd0, ⟨g1', t1', cs1, f1, p1, q1, hg1', ht1', hv1, hd1, ⟨g2', t2', cs2, f2, p2, q2, hg2', ht2', hv2, hd2, _, e2⟩, e1⟩, e0⟩, hnd, hrows⟩ := h
  obtain rfl := Option.some.inj (hg0.symm.trans hg0')
  obtain rfl := Option.some.inj (hg1.symm.trans hg1')
  obtain rfl := Option.some.inj (hg2.symm.trans hg2')
  obtain rfl := Option.some.inj (ht0.symm.trans ht0')
  obtain rfl := Option.some.inj (ht1.symm.trans ht1')
  obtain rfl := Option.some.inj (ht2.symm.trans ht2')
  subst e2
  subst e1
  subst e0
  obtain ⟨l0⟩ := cs0
  obtain ⟨l1⟩ := cs1
  obtain ⟨l2⟩ := cs2
  have ok0 : ∀ u v, l0 = [.iface u v] → Value.okWide Tryd.prog W .any 0 u v := fun u v e => by
    subst e
    exact (hrows g0 0 (by simp [MemPlace.row])).2 u v (by simpa using World.var?_cell hg0' hv0 0)
  have ok1 : ∀ u v, l1 = [.iface u v] → Value.okWide Tryd.prog W .any 0 u v := fun u v e => by
    subst e
    exact (hrows g1 0 (by simp [MemPlace.row])).2 u v (by simpa using World.var?_cell hg1' hv1 0)
  have ok2 : ∀ u v, l2 = [.iface u v] → Value.okWide Tryd.prog W .any 0 u v := fun u v e => by
    subst e
    exact (hrows g2 0 (by simp [MemPlace.row])).2 u v (by simpa using World.var?_cell hg2' hv2 0)
  obtain ⟨a0, s0, rfl, _, _, _, rfl⟩ := errorString_of_trod Tryd.underlying58 rowS Tryd.underlying127 Tryd.underlying149 rfl rfl Tryd.underlying9 cellsS cellsT hd0 ok0
  obtain ⟨a1, s1, rfl, _, _, _, rfl⟩ := errorString_of_trod Tryd.underlying58 rowS Tryd.underlying127 Tryd.underlying149 rfl rfl Tryd.underlying9 cellsS cellsT hd1 ok1
  obtain ⟨a2, s2, rfl, _, _, _, rfl⟩ := errorString_of_trod Tryd.underlying58 rowS Tryd.underlying127 Tryd.underlying149 rfl rfl Tryd.underlying9 cellsS cellsT hd2 ok2
  refine ⟨a0, a1, a2, by simpa [sent] using World.var?_cell hg0' hv0 0, by simpa [sent] using World.var?_cell hg1' hv1 0, by simpa [sent] using World.var?_cell hg2' hv2 0, ?_, ?_,
    (hrows a0.block a0.off (by simp [MemPlace.row])).1, (hrows a1.block a1.off (by simp [MemPlace.row])).1, (hrows a2.block a2.off (by simp [MemPlace.row])).1⟩
  · rintro rfl
    simp [MemPlace.row] at hnd
  · rintro rfl
    simp [MemPlace.row] at hnd
theorem gl_of_laid {W : World} (h : laidMetH Tryd.prog [("errors.errorType", Rows.laid_errors_errorType), ("winnower/schema.errNoMark", Rows.laid_winnower_schema_errNoMark), ("winnower/schema.errBadMark", Rows.laid_winnower_schema_errBadMark), ("winnower/schema.errMore", Rows.laid_winnower_schema_errMore)] W) :
    ∃ aM aN aB, Gl W aM aN aB := by
  have h' : laidMet Tryd.prog [("winnower/schema.errNoMark", Rows.laid_winnower_schema_errNoMark), ("winnower/schema.errBadMark", Rows.laid_winnower_schema_errBadMark), ("winnower/schema.errMore", Rows.laid_winnower_schema_errMore)] W
    ∧ handlesMet Tryd.prog [("errors.errorType", Rows.laid_errors_errorType)] W := h
  obtain ⟨aN, aB, aM, cN, cB, cM, nB, nM, rN, rB, rM⟩ := sentinels3 h'.1 gN tN gB tB gM tM
  obtain ⟨name, u, ty, e1, e2, e3, e4, e5⟩ := h'.2 _ (List.mem_singleton.2 rfl)
  have en : name = [101, 114, 114, 111, 114] := (Option.some.inj e1).symm
  subst en
  obtain rfl := Option.some.inj (rt.symm.trans e2)
  have hm : ty ∈ (List.range Tryd.prog.types.size).filter fun t => Tryd.prog.rowNamed t [101, 114, 114, 111, 114] := List.mem_filter.2 ⟨List.mem_range.2 e3, e4⟩
  rw [oneRow] at hm
  obtain rfl := List.mem_singleton.1 hm
  rw [handle] at e5
  exact ⟨aM, aN, aB, cM, cN, cB, by simpa using World.var?_cell gT e5 0, nB, nM, rM, rN, rB⟩
end Er
end Go.Proofs.YtdmgjeipkpbojaaDoor
