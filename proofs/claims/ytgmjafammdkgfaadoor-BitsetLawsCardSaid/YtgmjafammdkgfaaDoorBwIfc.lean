/- The landed package bitset keeps the contracts of its calls; the table of math/bits as the program's text lays it. -/
import Derived.Test.YtgmjafammdkgfaaDoorBwAnd
import Derived.Test.YtgmjafammdkgfaaDoorBwOr
import Derived.Test.YtgmjafammdkgfaaDoorBwNot
import Derived.Test.YtgmjafammdkgfaaDoorBwCount
import Derived.Test.YtgmjafammdkgfaaDoorBwSame
import Derived.Test.YtgmjafammdkgfaaDoorBwAll
namespace Go.Proofs.YtgmjafammdkgfaaDoor
set_option maxRecDepth 20000
open Go.RowKit
namespace Bw
open Bs Bx Bi
theorem ifc : Ifc St where
  ok := fun ⟨_, _, hw, _, e⟩ => e ▸ lstW_ok hw.1
  below := fun ⟨L, hS, hw, ht, e⟩ hb => ⟨L, hS.below hb, hw, ht, e⟩
  zero := fun _ => ⟨[], Wd.Sl.none_ _ _, wo_nil, tr_nil, lstW_nil.symm⟩
  of_ := of_any
  upto_ := upto_any
  has_ := fun h i hi => has_any _ _ _ _ i _ h hi
  with_ := fun h i _ => with_any _ _ _ _ i _ h
  without_ := fun h i hi => without_any _ _ _ _ i _ h hi
  and_ := fun h k => and_any _ _ _ _ _ _ _ _ _ h k
  or_ := fun h k => or_any _ _ _ _ _ _ _ _ _ h k
  not_ := fun h k hk => not_any _ _ _ _ k _ h hk
  count_ := fun h => count_any _ _ _ _ _ h
  same_ := fun h k => same_any _ _ _ _ _ _ _ _ _ h k
  list_ := fun h t k _ => list_of h t k
end Bw
end Go.Proofs.YtgmjafammdkgfaaDoor
