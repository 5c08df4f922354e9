/- What the functions of package num that read do: unzigzag, Get (getVarint, GetLen: NumGetV). They leave memory as it is. -/
import Derived.Test.YtdmgjeipkpbojaaDoorProg
import Derived.Test.YtdmgjeipkpbojaaDoorWords
import Derived.Test.YtdmgjeipkpbojaaDoorNumGetV
import Derived.Test.YtdmgjeipkpbojaaDoorNumMath
import Derived.Test.YtdmgjeipkpbojaaDoorNumBits
import Derived.WalkKit
import Derived.WalkSpells
import Derived.Lib.Hide
namespace Go.Proofs.YtdmgjeipkpbojaaDoor
set_option maxRecDepth 20000
open Go.RowKit
namespace Nc

theorem unzigzag_any (u : Int) (w : World) (h1 : 0 ≤ u) (h2 : u ≤ 18446744073709551615) :
    Calls Tryd.prog 78 #[.int .u64 u] w fun e w' => e = .returned (.int .i64 (Nm.unz u)) ∧ w = w' := by
  go_enter Tryd.func78, Tryd.ntmps78
  go_wp2
  go_ret
  exact ⟨congrArg (fun x => Ending.returned (.int .i64 x)) (Nm.unzig_bits u h1 h2), rfl⟩

theorem get_any (A : Option Addr) (n c : Nat) (bs : List Int) (w : World) (hb : Wd.Sl w .u8 A n c bs) (hB : Nm.Byt bs) :
    Calls Tryd.prog 75 #[.slice A n c] w fun e w' => e = .returned (three .i64 (Nm.getI bs)) ∧ w = w' := by
  by_cases h : (Nm.gv bs).2.2 = 0
  · obtain ⟨k, u, hk, k1, k2, k3, u0, u1, _⟩ := Nm.gv_only bs hB h
    have hr : Nm.getI bs = (Nm.unz u, (k : Int), 0) := by unfold Nm.getI; rw [hk]; rfl
    have Hr := Lib.hid hr
    have hc := (getVarint_any A n c bs w hb hB)
    rw [hk] at hc
    have Hc := Lib.hid hc
    clear hk hr hc h
    go_enter Tryd.func75, Tryd.ntmps75
    go_wp2_with fail
    refine Hc.out.mono ?_
    rintro e w' ⟨rfl, rfl⟩
    unfold three
    go_wp2_with fail
    refine (unzigzag_any u w u0 u1).mono ?_
    rintro e w' ⟨rfl, rfl⟩
    go_wp2_with fail
    go_ret3
    rw [Hr.out]
    exact ⟨rfl, rfl⟩
  · rcases Nm.gv_err bs with q | q | q
    · exact absurd q h
    all_goals
      have hr : Nm.getI bs = Nm.gv bs := by unfold Nm.getI; rw [q]; rfl
      have hc := (getVarint_any A n c bs w hb hB)
      rw [q] at hc hr
      have Hc := Lib.hid hc
      have Hr := Lib.hid hr
      clear hc hr q h
      go_enter Tryd.func75, Tryd.ntmps75
      go_wp2_with fail
      refine Hc.out.mono ?_
      rintro e w' ⟨rfl, rfl⟩
      unfold three
      go_wp2_with fail
      go_ret3
      rw [Hr.out]
      exact ⟨rfl, rfl⟩

end Nc
end Go.Proofs.YtdmgjeipkpbojaaDoor
