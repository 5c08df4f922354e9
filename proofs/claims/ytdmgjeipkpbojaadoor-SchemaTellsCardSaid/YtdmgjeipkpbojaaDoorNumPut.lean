/- What the functions of package num that write do: zigzag, Put (putVarint, PutLen and slices.Clone: NumPutV). -/
import Derived.Test.YtdmgjeipkpbojaaDoorProg
import Derived.Test.YtdmgjeipkpbojaaDoorWords
import Derived.Test.YtdmgjeipkpbojaaDoorNumPutV
import Derived.Test.YtdmgjeipkpbojaaDoorNumMath
import Derived.Test.YtdmgjeipkpbojaaDoorNumBits
import Derived.WalkKit
import Derived.WalkSpells
import Derived.Lib.Hide
namespace Go.Proofs.YtdmgjeipkpbojaaDoor
set_option maxRecDepth 20000
open Go.RowKit
namespace Nc
theorem zigzag_any (n : Int) (w : World) (h1 : -9223372036854775808 ≤ n) (h2 : n ≤ 9223372036854775807) :
    Calls Tryd.prog 68 #[.int .i64 n] w fun e w' => e = .returned (.int .u64 (Nm.zz n)) ∧ w = w' := by
  go_enter Tryd.func68, Tryd.ntmps68
  go_wp2
  go_ret
  exact ⟨congrArg (fun x => Ending.returned (.int .u64 x)) (Nm.zig_bits n h1 h2), rfl⟩

theorem put_any (A : Option Addr) (m c : Nat) (bs : List Int) (n : Int) (w : World) (hb : Wd.Sl w .u8 A m c bs) (hm : m ≤ 10000000) (h0 : -9223372036854775808 ≤ n) (h1 : n ≤ 9223372036854775807) :
    Calls Tryd.prog 52 #[.slice A m c, .int .i64 n] w (Wd.Out w .u8 (bs ++ Nm.vd (Nm.zz n))) := by
  have hz0 := Nm.zz_lo n
  have hz1 := Nm.zz_hi n h0 h1
  go_enter Tryd.func52, Tryd.ntmps52
  go_wp2_with fail
  refine (zigzag_any n w h0 h1).mono ?_
  rintro e w' ⟨rfl, rfl⟩
  go_wp2_with fail
  refine (putVarint_any A m c bs (Nm.zz n) w hb hm hz0 hz1).mono ?_
  rintro e w' ⟨A', m', c', rfl, hO⟩
  go_wp2_with fail
  go_ret
  exact ⟨A', m', c', rfl, hO⟩

end Nc
end Go.Proofs.YtdmgjeipkpbojaaDoor
