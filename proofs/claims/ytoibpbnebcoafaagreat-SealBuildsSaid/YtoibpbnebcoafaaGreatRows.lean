/-
  No cell of these rows narrows 'for every input' (looked for: loops, veiled, ifaces, maps, wideKeys, modest, calm, conditions, laid).
  DERIVED. THE GIVEN ROWS OF THIS SEAT. 6 by the template 'for every input the law returns true; each argument reads behind the call as it read before'; 0 by the template 'total and deterministic' (their statements: YtoibpbnebcoafaaGreatTotals.lean).
  GIVEN WITH THE SEED: the statements are not yours to turn. If you find one false, say at which input.
  Laid BY PROGRAM, IN A SANDBOX (cutbox-rows.mjs): the forced cells as the released guide's own fill.sh prints them over the translation 74dadc7cd57e809f… (all of the seat's roots in one cut). By AI agents, Wed Nov 11 2026. No macro, syntax, notation, axiom, sorry.
-/
import Derived.Test.YtoibpbnebcoafaaGreatChecked
import GoSem.Claim
import GoSem.ClaimJoined
import GoSem.ClaimMapViews
import Derived.JoinedTies
import Derived.KernelRfl
namespace Go.Proofs.YtoibpbnebcoafaaGreat
/- THE CELL 'sum', in the pinned program and in every row, IS THE sha256 OF THE DUMP (.gsa) THAT YtoibpbnebcoafaaGreatProg.lean LOADS. Nothing in Lean hashes anything: it is a label: what it is worth is what the hold of that sum in a sandbox is worth. -/
noncomputable def Tryz.pinned : Pinned := { name := "ytoibpbnebcoafaagreat", sum := "74dadc7cd57e809fd3b3afb868a466c07862f2908b77765234b1916488d4bfdf", checked := Tryz.checked }
namespace Rows
def none {H : Type} : Left H := { results := [], args := [] }

/-- 'winnowerlaw12.SealBuilds': WHATEVER THE INPUT: true; the input reads as it did. -/
def sealBuildsSpec : ChangeSpec := { name := "sealBuilds", fn := fun _ => fun
  | [d1, d2, d3, d4] => { results := [.lit (.bool true)], args := [d1, d2, d3, d4] }
  | _ => none }
def sealBuildsRow : OpenClaim := { program := "ytoibpbnebcoafaagreat", sum := "74dadc7cd57e809fd3b3afb868a466c07862f2908b77765234b1916488d4bfdf", func := "winnower/winnowerlaw12.SealBuilds", spec := "sealBuilds", unfollowed := true, recurses := true, plainKeys := false, apart := false }
def SealBuildsSaid : Prop := sealBuildsRow.holds Tryz.pinned (OpenSpec.ofChange sealBuildsSpec)

/-- ITS FALSE NEIGHBOUR: 'it returns false'. Refute it at one input. -/
def sealBuildsWrong : ChangeSpec := { name := "sealBuilds", fn := fun _ => fun
  | [d1, d2, d3, d4] => { results := [.lit (.bool false)], args := [d1, d2, d3, d4] }
  | _ => none }
def SealBuildsWrongFalsely : Prop := sealBuildsRow.holds Tryz.pinned (OpenSpec.ofChange sealBuildsWrong)

/-- 'winnowerlaw12.SealTells': WHATEVER THE INPUT: true; the input reads as it did. -/
def sealTellsSpec : ChangeSpec := { name := "sealTells", fn := fun _ => fun
  | [d1, d2, d3] => { results := [.lit (.bool true)], args := [d1, d2, d3] }
  | _ => none }
def sealTellsRow : OpenClaim := { program := "ytoibpbnebcoafaagreat", sum := "74dadc7cd57e809fd3b3afb868a466c07862f2908b77765234b1916488d4bfdf", func := "winnower/winnowerlaw12.SealTells", spec := "sealTells", unfollowed := true, recurses := true, plainKeys := false, apart := false }
def SealTellsSaid : Prop := sealTellsRow.holds Tryz.pinned (OpenSpec.ofChange sealTellsSpec)

/-- ITS FALSE NEIGHBOUR: 'it returns false'. Refute it at one input. -/
def sealTellsWrong : ChangeSpec := { name := "sealTells", fn := fun _ => fun
  | [d1, d2, d3] => { results := [.lit (.bool false)], args := [d1, d2, d3] }
  | _ => none }
def SealTellsWrongFalsely : Prop := sealTellsRow.holds Tryz.pinned (OpenSpec.ofChange sealTellsWrong)

/-- 'winnowerlaw12.SealBack': WHATEVER THE INPUT: true; the input reads as it did. -/
def sealBackSpec : ChangeSpec := { name := "sealBack", fn := fun _ => fun
  | [d1, d2, d3] => { results := [.lit (.bool true)], args := [d1, d2, d3] }
  | _ => none }
def sealBackRow : OpenClaim := { program := "ytoibpbnebcoafaagreat", sum := "74dadc7cd57e809fd3b3afb868a466c07862f2908b77765234b1916488d4bfdf", func := "winnower/winnowerlaw12.SealBack", spec := "sealBack", unfollowed := true, recurses := true, plainKeys := false, apart := false }
def SealBackSaid : Prop := sealBackRow.holds Tryz.pinned (OpenSpec.ofChange sealBackSpec)

/-- ITS FALSE NEIGHBOUR: 'it returns false'. Refute it at one input. -/
def sealBackWrong : ChangeSpec := { name := "sealBack", fn := fun _ => fun
  | [d1, d2, d3] => { results := [.lit (.bool false)], args := [d1, d2, d3] }
  | _ => none }
def SealBackWrongFalsely : Prop := sealBackRow.holds Tryz.pinned (OpenSpec.ofChange sealBackWrong)

/-- 'winnowerlaw12.SealSorts': WHATEVER THE INPUT: true; the input reads as it did. -/
def sealSortsSpec : ChangeSpec := { name := "sealSorts", fn := fun _ => fun
  | [d1, d2] => { results := [.lit (.bool true)], args := [d1, d2] }
  | _ => none }
def sealSortsRow : OpenClaim := { program := "ytoibpbnebcoafaagreat", sum := "74dadc7cd57e809fd3b3afb868a466c07862f2908b77765234b1916488d4bfdf", func := "winnower/winnowerlaw12.SealSorts", spec := "sealSorts", unfollowed := true, recurses := true, plainKeys := false, apart := false }
def SealSortsSaid : Prop := sealSortsRow.holds Tryz.pinned (OpenSpec.ofChange sealSortsSpec)

/-- ITS FALSE NEIGHBOUR: 'it returns false'. Refute it at one input. -/
def sealSortsWrong : ChangeSpec := { name := "sealSorts", fn := fun _ => fun
  | [d1, d2] => { results := [.lit (.bool false)], args := [d1, d2] }
  | _ => none }
def SealSortsWrongFalsely : Prop := sealSortsRow.holds Tryz.pinned (OpenSpec.ofChange sealSortsWrong)

/-- 'winnowerlaw12.SealOnce': WHATEVER THE INPUT: true; the input reads as it did. -/
def sealOnceSpec : ChangeSpec := { name := "sealOnce", fn := fun _ => fun
  | [d1, d2, d3] => { results := [.lit (.bool true)], args := [d1, d2, d3] }
  | _ => none }
def sealOnceRow : OpenClaim := { program := "ytoibpbnebcoafaagreat", sum := "74dadc7cd57e809fd3b3afb868a466c07862f2908b77765234b1916488d4bfdf", func := "winnower/winnowerlaw12.SealOnce", spec := "sealOnce", unfollowed := true, recurses := true, plainKeys := false, apart := false }
def SealOnceSaid : Prop := sealOnceRow.holds Tryz.pinned (OpenSpec.ofChange sealOnceSpec)

/-- ITS FALSE NEIGHBOUR: 'it returns false'. Refute it at one input. -/
def sealOnceWrong : ChangeSpec := { name := "sealOnce", fn := fun _ => fun
  | [d1, d2, d3] => { results := [.lit (.bool false)], args := [d1, d2, d3] }
  | _ => none }
def SealOnceWrongFalsely : Prop := sealOnceRow.holds Tryz.pinned (OpenSpec.ofChange sealOnceWrong)

/-- 'winnowerlaw12.SealRows': WHATEVER THE INPUT: true; the input reads as it did. -/
def sealRowsSpec : ChangeSpec := { name := "sealRows", fn := fun _ => fun
  | [d1, d2] => { results := [.lit (.bool true)], args := [d1, d2] }
  | _ => none }
def sealRowsRow : OpenClaim := { program := "ytoibpbnebcoafaagreat", sum := "74dadc7cd57e809fd3b3afb868a466c07862f2908b77765234b1916488d4bfdf", func := "winnower/winnowerlaw12.SealRows", spec := "sealRows", unfollowed := true, recurses := true, plainKeys := false, apart := false }
def SealRowsSaid : Prop := sealRowsRow.holds Tryz.pinned (OpenSpec.ofChange sealRowsSpec)

/-- ITS FALSE NEIGHBOUR: 'it returns false'. Refute it at one input. -/
def sealRowsWrong : ChangeSpec := { name := "sealRows", fn := fun _ => fun
  | [d1, d2] => { results := [.lit (.bool false)], args := [d1, d2] }
  | _ => none }
def SealRowsWrongFalsely : Prop := sealRowsRow.holds Tryz.pinned (OpenSpec.ofChange sealRowsWrong)

/- THE SECOND FORM. 'bulk': how many values and letters a reading holds, each counted each time it is reached (what is shared counts as often as it is met; a slice's spare places count too). A statement '..UptoSaid' is the law's where the arguments, and the package variables that the reading takes, are together of bulk at most 1048576: NARROWER than '..Said'. Prove '..Said' where nothing that the law and all that it calls make is longer than what came in: it says more and counts as full. Else prove '..UptoSaid'. A law counts once. -/
mutual
def uptoBulk {H : Type} : DataW H → Nat
  | .lit (.string bytes) => bytes.length + 1
  | .lit _ => 1
  | .nil => 1
  | .ptr d => uptoBulk d + 1
  | .slice elems spare => uptoBulkAll elems + uptoBulkAll spare + 1
  | .agg parts => uptoBulkAll parts + 1
  | .iface _ d => uptoBulk d + 1
  | .map entries => uptoBulkEntries entries + 1
  | .held _ => 1
def uptoBulkAll {H : Type} : List (DataW H) → Nat
  | [] => 0
  | d :: r => uptoBulk d + uptoBulkAll r
def uptoBulkEntries {H : Type} : List (Lit × DataW H) → Nat
  | [] => 0
  | x :: r => uptoBulkEntry x + uptoBulkEntries r
def uptoBulkEntry {H : Type} : Lit × DataW H → Nat
  | (.string bytes, d) => bytes.length + uptoBulk d + 1
  | (_, d) => uptoBulk d + 1
 end
def uptoSmall : (H : Type) → List (DataW H) → Bool := fun _ ds => decide (uptoBulkAll ds ≤ 1048576)
def OpenSpec.upto (s : _root_.Go.ChangeSpec) : _root_.Go.OpenSpec := { _root_.Go.OpenSpec.ofChange s with cond := some uptoSmall }

/-- 'winnowerlaw12.SealBuilds', WHERE WHAT IT READS IS OF BULK AT MOST 1048576: true; the input reads as it did. -/
def sealBuildsUptoRow : OpenClaim := { program := "ytoibpbnebcoafaagreat", sum := "74dadc7cd57e809fd3b3afb868a466c07862f2908b77765234b1916488d4bfdf", func := "winnower/winnowerlaw12.SealBuilds", spec := "sealBuilds", unfollowed := true, recurses := true, plainKeys := false, apart := false, narrowed := true }
def SealBuildsUptoSaid : Prop := sealBuildsUptoRow.holds Tryz.pinned (OpenSpec.upto sealBuildsSpec)

/-- 'winnowerlaw12.SealTells', WHERE WHAT IT READS IS OF BULK AT MOST 1048576: true; the input reads as it did. -/
def sealTellsUptoRow : OpenClaim := { program := "ytoibpbnebcoafaagreat", sum := "74dadc7cd57e809fd3b3afb868a466c07862f2908b77765234b1916488d4bfdf", func := "winnower/winnowerlaw12.SealTells", spec := "sealTells", unfollowed := true, recurses := true, plainKeys := false, apart := false, narrowed := true }
def SealTellsUptoSaid : Prop := sealTellsUptoRow.holds Tryz.pinned (OpenSpec.upto sealTellsSpec)

/-- 'winnowerlaw12.SealBack', WHERE WHAT IT READS IS OF BULK AT MOST 1048576: true; the input reads as it did. -/
def sealBackUptoRow : OpenClaim := { program := "ytoibpbnebcoafaagreat", sum := "74dadc7cd57e809fd3b3afb868a466c07862f2908b77765234b1916488d4bfdf", func := "winnower/winnowerlaw12.SealBack", spec := "sealBack", unfollowed := true, recurses := true, plainKeys := false, apart := false, narrowed := true }
def SealBackUptoSaid : Prop := sealBackUptoRow.holds Tryz.pinned (OpenSpec.upto sealBackSpec)

/-- 'winnowerlaw12.SealSorts', WHERE WHAT IT READS IS OF BULK AT MOST 1048576: true; the input reads as it did. -/
def sealSortsUptoRow : OpenClaim := { program := "ytoibpbnebcoafaagreat", sum := "74dadc7cd57e809fd3b3afb868a466c07862f2908b77765234b1916488d4bfdf", func := "winnower/winnowerlaw12.SealSorts", spec := "sealSorts", unfollowed := true, recurses := true, plainKeys := false, apart := false, narrowed := true }
def SealSortsUptoSaid : Prop := sealSortsUptoRow.holds Tryz.pinned (OpenSpec.upto sealSortsSpec)

/-- 'winnowerlaw12.SealOnce', WHERE WHAT IT READS IS OF BULK AT MOST 1048576: true; the input reads as it did. -/
def sealOnceUptoRow : OpenClaim := { program := "ytoibpbnebcoafaagreat", sum := "74dadc7cd57e809fd3b3afb868a466c07862f2908b77765234b1916488d4bfdf", func := "winnower/winnowerlaw12.SealOnce", spec := "sealOnce", unfollowed := true, recurses := true, plainKeys := false, apart := false, narrowed := true }
def SealOnceUptoSaid : Prop := sealOnceUptoRow.holds Tryz.pinned (OpenSpec.upto sealOnceSpec)

/-- 'winnowerlaw12.SealRows', WHERE WHAT IT READS IS OF BULK AT MOST 1048576: true; the input reads as it did. -/
def sealRowsUptoRow : OpenClaim := { program := "ytoibpbnebcoafaagreat", sum := "74dadc7cd57e809fd3b3afb868a466c07862f2908b77765234b1916488d4bfdf", func := "winnower/winnowerlaw12.SealRows", spec := "sealRows", unfollowed := true, recurses := true, plainKeys := false, apart := false, narrowed := true }
def SealRowsUptoSaid : Prop := sealRowsUptoRow.holds Tryz.pinned (OpenSpec.upto sealRowsSpec)

end Rows
end Go.Proofs.YtoibpbnebcoafaaGreat
