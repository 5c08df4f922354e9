/- Reading what was written as a number, whatever stands behind; bytes. -/
import Derived.Test.YtiokajaadmfohaaNumMath
import Derived.Test.YtiokajaadmfohaaWords
namespace Go.Proofs.Ytiokajaadmfohaa
set_option maxRecDepth 20000
open Go.RowKit
namespace Lw

theorem byt_of {xs : List Int} (h : Wd.Fits .u8 xs) : Nm.Byt xs := fun x hx => by
  have := h x hx
  simp [Lit.wf, IntKind.min, IntKind.max, IntKind.signed, IntKind.bits] at this
  omega
theorem byt_app {xs ys : List Int} (h : Nm.Byt xs) (h' : Nm.Byt ys) : Nm.Byt (xs ++ ys) := fun x hx => by
  rcases List.mem_append.1 hx with q | q
  · exact h x q
  · exact h' x q
theorem getI_vd (n : Int) (more : List Int) (n1 : -9223372036854775808 ≤ n) (n2 : n ≤ 9223372036854775807) : Nm.getI (Nm.vd (Nm.zz n) ++ more) = (n, ((Nm.vd (Nm.zz n)).length : Int), 0) := by
  unfold Nm.getI
  rw [Nm.gv_vd _ _ (Nm.zz_lo n) (Nm.zz_hi n n1 n2)]
  show (Nm.unz (Nm.zz n), _, _) = _
  rw [Nm.unz_zz]
theorem getL_vd (n : Int) (more : List Int) (n1 : 0 ≤ n) (n2 : n ≤ 9223372036854775807) : Nm.getL (Nm.vd n ++ more) = (n, ((Nm.vd n).length : Int), 0) := by
  unfold Nm.getL
  rw [Nm.gv_vd _ _ n1 (by omega)]
  exact if_neg (show ¬ 9223372036854775807 < n by omega)
end Lw
end Go.Proofs.Ytiokajaadmfohaa
