/- What the condition on the package-level variable gives a walk: the table of math/bits, cell by cell. -/
import Derived.Test.YtgmjafammdkgfaaDoorBwIfc
import Derived.Test.YtgmjafammdkgfaaDoorRows
import Derived.OpenShut
import Derived.LaidHandle
import Derived.Stop.Joined
namespace Go.Proofs.YtgmjafammdkgfaaDoor
set_option maxRecDepth 20000
open Go.ChangeShapes Go.WideShapes Go.RowKit
namespace Bw
open Bs Bx Bi
theorem gT : Tryd.prog.globalNamed "math/bits.deBruijn64tab" = some 0 := by kernel_rfl
theorem tT : (Tryd.prog.globals[0]?).map (·.type) = some 56 := by kernel_rfl
theorem c8 : Tryd.prog.cellsOf 5 = 1 := by kernel_rfl
theorem tab_of_laid {W : World} (h : laidMetH Tryd.prog [("math/bits.deBruijn64tab", Rows.laid_math_bits_deBruijn64tab)] W) : Tab W := by
  have h' : laidMet Tryd.prog [("math/bits.deBruijn64tab", Rows.laid_math_bits_deBruijn64tab)] W := h
  obtain ⟨ps, ⟨g, t, cs, fuel, p, q, hg, ht, hv, hd, _, _⟩, _, _⟩ := h'
  obtain rfl := Option.some.inj (gT.symm.trans hg)
  obtain rfl := Option.some.inj (tT.symm.trans ht)
  obtain ⟨xs, m, rfl, hx, hl, hn, hi⟩ := DataW.trod_array Tryd.underlying56 hd
  have hm : xs.map (·.1) = Lib.deBruijn64tab.map fun (k : Nat) => (DataW.lit (.int .u8 (k : Int)) : DataW Unit) := by
    have e := (congrArg Prod.fst hx).symm
    exact DataW.agg.inj e
  intro j hj
  have h1 := hi j hj
  have hjx : j < xs.length := by rw [hn]; exact hj
  rw [List.getElem?_eq_getElem hjx, c8, Nat.mul_one] at h1
  obtain ⟨k, e1, e2, _⟩ := DataW.trod_int Tryd.underlying5 h1
  have e3 := congrArg (fun l : List (DataW Unit) => l[j]?) hm
  simp only [List.getElem?_map, List.getElem?_eq_getElem hjx, Option.map_some, e2] at e3
  have hjt : j < Lib.deBruijn64tab.length := hj
  rw [List.getElem?_eq_getElem hjt, Option.map_some] at e3
  simp only [Option.some.injEq, DataW.lit.injEq, Lit.int.injEq, true_and] at e3
  rw [World.var?_cell gT hv j, List.getD_eq_getElem?_getD, List.getElem?_eq_getElem hjt, Option.getD_some, ← e3]
  have e4 := congrArg (fun l : List Value => l[0]?) e1
  simp only [List.getElem?_cons_zero] at e4
  rw [List.getElem?_take, List.getElem?_drop] at e4
  simpa using e4
/-- What the rows list of the package-level variables. -/
abbrev ls : List (String × DataW Unit) := [("math/bits.deBruijn64tab", Rows.laid_math_bits_deBruijn64tab)]
end Bw
end Go.Proofs.YtgmjafammdkgfaaDoor
