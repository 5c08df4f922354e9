/- The type of a call of a disk, at this program. -/
import Derived.Test.YthangnhccbnfbaaDkLawW
namespace Go.Proofs.Ythangnhccbnfbaa
namespace Dk
theorem opT : ∃ f0 f1 f2 f3 f4, Wd.OpT Try.prog 36 f0 f1 f2 f3 f4 5 3 :=
  ⟨_, _, _, _, _, ⟨Try.underlying36, by kernel_rfl, rfl, rfl, rfl, rfl, rfl, by kernel_rfl, by kernel_rfl, by kernel_rfl, by kernel_rfl, by kernel_rfl,
    Try.underlying3, Try.underlying3, Try.underlying9, Try.underlying33, Try.underlying34, Try.underlying5, Try.underlying3, by kernel_rfl, by kernel_rfl⟩⟩
end Dk
end Go.Proofs.Ythangnhccbnfbaa
