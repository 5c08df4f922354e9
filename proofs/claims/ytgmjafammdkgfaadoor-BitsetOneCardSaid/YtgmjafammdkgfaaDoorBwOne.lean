/- The walk of BitsetOne over the landed sets, where the table of math/bits lies as the program's text lays it. -/
import Derived.Test.YtgmjafammdkgfaaDoorBwLaid
import Derived.Test.YtgmjafammdkgfaaDoorBsLawH
namespace Go.Proofs.YtgmjafammdkgfaaDoor
set_option maxRecDepth 20000
open Go.RowKit
namespace Lw
theorem bitsetOne_says (Aa : Option Addr) (na ca : Nat) (la : List Int) (i kk : Int) (w : World) (hSa : Wd.Sl w .i64 Aa na ca la) (fa : Wd.Fits .i64 la) (i0 : -9223372036854775808 ≤ i) (i1 : i ≤ 9223372036854775807) (k0 : -9223372036854775808 ≤ kk) (k1 : kk ≤ 9223372036854775807) (hL : laidMetH Tryd.prog Bw.ls w) :
    Calls Tryd.prog 6 #[.slice Aa na ca, .int .i64 i, .int .i64 kk] w fun e w' => e = .returned (.bool true) ∧ Below w.heap.size w w' :=
  bitsetOne_walk Bw.ifc Aa na ca la i kk w hSa fa i0 i1 k0 k1 (Bw.tab_of_laid hL)
end Lw
end Go.Proofs.YtgmjafammdkgfaaDoor
