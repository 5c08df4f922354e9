/- The walk of BitsetStays over the landed sets, where the table of math/bits lies as the program's text lays it. -/
import Derived.Test.YtgmjafammdkgfaaDoorBwLaid
import Derived.Test.YtgmjafammdkgfaaDoorBsLawC
namespace Go.Proofs.YtgmjafammdkgfaaDoor
set_option maxRecDepth 20000
open Go.RowKit
namespace Lw
theorem bitsetStays_says (Aa : Option Addr) (na ca : Nat) (la : List Int) (Ab : Option Addr) (nb cb : Nat) (lb : List Int) (i n : Int) (w : World) (hSa : Wd.Sl w .i64 Aa na ca la) (fa : Wd.Fits .i64 la) (hSb : Wd.Sl w .i64 Ab nb cb lb) (fb : Wd.Fits .i64 lb)
    (i0 : -9223372036854775808 ≤ i) (i1 : i ≤ 9223372036854775807) (n0 : -9223372036854775808 ≤ n) (n1 : n ≤ 9223372036854775807) (hL : laidMetH Tryd.prog Bw.ls w) :
    Calls Tryd.prog 5 #[.slice Aa na ca, .slice Ab nb cb, .int .i64 i, .int .i64 n] w fun e w' => e = .returned (.bool true) ∧ Below w.heap.size w w' :=
  bitsetStays_walk Bw.ifc Aa na ca la Ab nb cb lb i n w hSa fa hSb fb i0 i1 n0 n1 (Bw.tab_of_laid hL)
end Lw
end Go.Proofs.YtgmjafammdkgfaaDoor
