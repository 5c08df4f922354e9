/- How many a set of a list has at most. -/
import Derived.Test.YtgmjafammdkgfaaDoorBsRefC
namespace Go.Proofs.YtgmjafammdkgfaaDoor
namespace Bi
open Bs Bx
theorem of_len (l : List Int) : (ofL l).length ≤ l.length := by
  have := fold_len_le l []
  simpa [ofL] using this
end Bi
end Go.Proofs.YtgmjafammdkgfaaDoor
