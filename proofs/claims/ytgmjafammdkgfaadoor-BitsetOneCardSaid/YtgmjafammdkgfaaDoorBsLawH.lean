/- The walk of the statement BitsetOne of layer 9. -/
import Derived.Test.YtgmjafammdkgfaaDoorBsLawD
import Derived.Test.YtgmjafammdkgfaaDoorBsLawE
import Derived.Test.YtgmjafammdkgfaaDoorBsLawF
import Derived.Test.YtgmjafammdkgfaaDoorBsLawG
namespace Go.Proofs.YtgmjafammdkgfaaDoor
set_option maxRecDepth 20000
open Go.RowKit
namespace Lw
open Bi Bs Bx
variable {S : World → Option Addr → Nat → Nat → List Int → Prop}
theorem bitsetOne_walk (I : Ifc S) (Aa : Option Addr) (na ca : Nat) (la : List Int) (i kk : Int) (w : World) (hSa : Wd.Sl w .i64 Aa na ca la) (_fa : Wd.Fits .i64 la) (i0 : -9223372036854775808 ≤ i) (i1 : i ≤ 9223372036854775807) (k0 : -9223372036854775808 ≤ kk) (k1 : kk ≤ 9223372036854775807) (hTab : Tab w) :
    Calls Tryd.prog 6 #[.slice Aa na ca, .int .i64 i, .int .i64 kk] w fun e w' => e = .returned (.bool true) ∧ Below w.heap.size w w' := by
  by_cases hna : na ≤ 60
  · by_cases h0 : 0 ≤ i
    · by_cases h1 : i < 65536
      · by_cases hi : i ∈ ofL la
        · exact bitsetOne_in I Aa na ca la i kk w hTab hSa i0 i1 k0 k1 hna h0 h1 hi
        · exact bitsetOne_new I Aa na ca la i kk w hTab hSa i0 i1 k0 k1 hna h0 h1 hi
      · exact bitsetOne_high I Aa na ca la i kk w hTab hSa i0 i1 k0 k1 hna h0 h1
    · exact bitsetOne_low I Aa na ca la i kk w hTab hSa i0 i1 k0 k1 hna (by omega)
  · have Ca := Lib.hid (awake_any I w hTab)
    have g1 : (60 : Int) < na := by omega
    clear hna hTab
    go_enter Tryd.func6, Tryd.ntmps6
    go_wp2_with fail
    refine (Ca.out).mono ?_
    rintro e w1 ⟨rfl, hb1⟩
    go_wp2_with fail
    go_ret
    exact ⟨rfl, hb1⟩
end Lw
end Go.Proofs.YtgmjafammdkgfaaDoor
