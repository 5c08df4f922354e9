/- What the reference functions of layer 1 do: Put (digits, PutLen: NumRefV). -/
import Derived.Test.YtdmgjeipkpbojaaDoorNumPut
import Derived.Test.YtdmgjeipkpbojaaDoorNumRefV
import Derived.Test.YtdmgjeipkpbojaaDoorRefSame
import Derived.Deep.QuietTactic
import Derived.BigQuiet
namespace Go.Proofs.YtdmgjeipkpbojaaDoor
set_option maxRecDepth 20000
open Go.RowKit
namespace Nc

theorem refPut_any (n : Int) (w : World) (h0 : -9223372036854775808 ≤ n) (h1 : n ≤ 9223372036854775807) :
    Calls Tryd.prog 40 #[.int .i64 n] w (Wd.Out w .u8 (Nm.vd (Nm.zz n))) := by
  by_cases hn : n < 0
  · have hc := digits_any 9 (-(n + 1)) 1 w (by omega) (by omega) (by omega) (by omega) (by omega) (by rw [Nm.pow10]; omega)
    have e : 2 * -(n + 1) + 1 = Nm.zz n := by unfold Nm.zz; rw [if_pos hn]; omega
    rw [e] at hc
    have Hc := Lib.hid hc
    clear hc e
    go_enter Tryd.func40, Tryd.ntmps40
    go_wp2_with fail
    refine Hc.out.mono ?_
    rintro e w1 ⟨A, n, c, rfl, hS⟩
    go_wp2_with fail
    go_ret
    exact ⟨A, n, c, rfl, hS⟩
  · have hc := digits_any 9 n 0 w (by omega) (by omega) (by omega) (by omega) (by omega) (by rw [Nm.pow10]; omega)
    have e : 2 * n + 0 = Nm.zz n := by unfold Nm.zz; rw [if_neg hn]; omega
    rw [e] at hc
    have Hc := Lib.hid hc
    clear hc e
    go_enter Tryd.func40, Tryd.ntmps40
    go_wp2_with fail
    refine Hc.out.mono ?_
    rintro e w1 ⟨A, n, c, rfl, hS⟩
    go_wp2_with fail
    go_ret
    exact ⟨A, n, c, rfl, hS⟩

end Nc
end Go.Proofs.YtdmgjeipkpbojaaDoor
