/-
  No cell of these rows narrows 'for every input' (looked for: loops, veiled, ifaces, maps, wideKeys, modest, calm, conditions, laid).
  DERIVED. THE GIVEN ROWS OF THIS SEAT. 5 by the template 'for every input the law returns true; each argument reads behind the call as it read before'; 0 by the template 'total and deterministic' (their statements: YtfeolclpgilfdaaTotals.lean).
  GIVEN WITH THE SEED: the statements are not yours to turn. If you find one false, say at which input.
  Laid BY PROGRAM, IN A SANDBOX (cutbox-rows.mjs): the forced cells as the released guide's own fill.sh prints them over the translation 371aec970810e1ac… (all of the seat's roots in one cut). By AI agents, Wed Nov 11 2026. No macro, syntax, notation, axiom, sorry.
-/
import Derived.Test.YtfeolclpgilfdaaChecked
import GoSem.Claim
import GoSem.ClaimJoined
import GoSem.ClaimMapViews
import Derived.JoinedTies
import Derived.KernelRfl
namespace Go.Proofs.Ytfeolclpgilfdaa
/- THE CELL 'sum', in the pinned program and in every row, IS THE sha256 OF THE DUMP (.gsa) THAT YtfeolclpgilfdaaProg.lean LOADS. Nothing in Lean hashes anything: it is a label: what it is worth is what the hold of that sum in a sandbox is worth. -/
noncomputable def Try.pinned : Pinned := { name := "ytfeolclpgilfdaa", sum := "371aec970810e1ac88b43a04d5a288423cb92cd245dc51cbb0b0fdc9704bc2f1", checked := Try.checked }
namespace Rows
def none {H : Type} : Left H := { results := [], args := [] }

/-- 'winnowerlaw11.RowsDo': WHATEVER THE INPUT: true; the input reads as it did. -/
def rowsDoSpec : ChangeSpec := { name := "rowsDo", fn := fun _ => fun
  | [d1, d2, d3, d4] => { results := [.lit (.bool true)], args := [d1, d2, d3, d4] }
  | _ => none }
def rowsDoRow : OpenClaim := { program := "ytfeolclpgilfdaa", sum := "371aec970810e1ac88b43a04d5a288423cb92cd245dc51cbb0b0fdc9704bc2f1", func := "winnower/winnowerlaw11.RowsDo", spec := "rowsDo", unfollowed := true, recurses := true, plainKeys := false, apart := false }
def RowsDoSaid : Prop := rowsDoRow.holds Try.pinned (OpenSpec.ofChange rowsDoSpec)

/-- ITS FALSE NEIGHBOUR: 'it returns false'. Refute it at one input. -/
def rowsDoWrong : ChangeSpec := { name := "rowsDo", fn := fun _ => fun
  | [d1, d2, d3, d4] => { results := [.lit (.bool false)], args := [d1, d2, d3, d4] }
  | _ => none }
def RowsDoWrongFalsely : Prop := rowsDoRow.holds Try.pinned (OpenSpec.ofChange rowsDoWrong)

/-- 'winnowerlaw11.RowsKeep': WHATEVER THE INPUT: true; the input reads as it did. -/
def rowsKeepSpec : ChangeSpec := { name := "rowsKeep", fn := fun _ => fun
  | [d1, d2, d3, d4] => { results := [.lit (.bool true)], args := [d1, d2, d3, d4] }
  | _ => none }
def rowsKeepRow : OpenClaim := { program := "ytfeolclpgilfdaa", sum := "371aec970810e1ac88b43a04d5a288423cb92cd245dc51cbb0b0fdc9704bc2f1", func := "winnower/winnowerlaw11.RowsKeep", spec := "rowsKeep", unfollowed := true, recurses := true, plainKeys := false, apart := false }
def RowsKeepSaid : Prop := rowsKeepRow.holds Try.pinned (OpenSpec.ofChange rowsKeepSpec)

/-- ITS FALSE NEIGHBOUR: 'it returns false'. Refute it at one input. -/
def rowsKeepWrong : ChangeSpec := { name := "rowsKeep", fn := fun _ => fun
  | [d1, d2, d3, d4] => { results := [.lit (.bool false)], args := [d1, d2, d3, d4] }
  | _ => none }
def RowsKeepWrongFalsely : Prop := rowsKeepRow.holds Try.pinned (OpenSpec.ofChange rowsKeepWrong)

/-- 'winnowerlaw11.RowsNone': WHATEVER THE INPUT: true; the input reads as it did. -/
def rowsNoneSpec : ChangeSpec := { name := "rowsNone", fn := fun _ => fun
  | [d1, d2] => { results := [.lit (.bool true)], args := [d1, d2] }
  | _ => none }
def rowsNoneRow : OpenClaim := { program := "ytfeolclpgilfdaa", sum := "371aec970810e1ac88b43a04d5a288423cb92cd245dc51cbb0b0fdc9704bc2f1", func := "winnower/winnowerlaw11.RowsNone", spec := "rowsNone", unfollowed := true, recurses := true, plainKeys := false, apart := false }
def RowsNoneSaid : Prop := rowsNoneRow.holds Try.pinned (OpenSpec.ofChange rowsNoneSpec)

/-- ITS FALSE NEIGHBOUR: 'it returns false'. Refute it at one input. -/
def rowsNoneWrong : ChangeSpec := { name := "rowsNone", fn := fun _ => fun
  | [d1, d2] => { results := [.lit (.bool false)], args := [d1, d2] }
  | _ => none }
def RowsNoneWrongFalsely : Prop := rowsNoneRow.holds Try.pinned (OpenSpec.ofChange rowsNoneWrong)

/-- 'winnowerlaw11.RowsLimits': WHATEVER THE INPUT: true; the input reads as it did. -/
def rowsLimitsSpec : ChangeSpec := { name := "rowsLimits", fn := fun _ => fun
  | [d1, d2, d3, d4] => { results := [.lit (.bool true)], args := [d1, d2, d3, d4] }
  | _ => none }
def rowsLimitsRow : OpenClaim := { program := "ytfeolclpgilfdaa", sum := "371aec970810e1ac88b43a04d5a288423cb92cd245dc51cbb0b0fdc9704bc2f1", func := "winnower/winnowerlaw11.RowsLimits", spec := "rowsLimits", unfollowed := true, recurses := true, plainKeys := false, apart := false }
def RowsLimitsSaid : Prop := rowsLimitsRow.holds Try.pinned (OpenSpec.ofChange rowsLimitsSpec)

/-- ITS FALSE NEIGHBOUR: 'it returns false'. Refute it at one input. -/
def rowsLimitsWrong : ChangeSpec := { name := "rowsLimits", fn := fun _ => fun
  | [d1, d2, d3, d4] => { results := [.lit (.bool false)], args := [d1, d2, d3, d4] }
  | _ => none }
def RowsLimitsWrongFalsely : Prop := rowsLimitsRow.holds Try.pinned (OpenSpec.ofChange rowsLimitsWrong)

/-- 'winnowerlaw11.RowsColumns': WHATEVER THE INPUT: true; the input reads as it did. -/
def rowsColumnsSpec : ChangeSpec := { name := "rowsColumns", fn := fun _ => fun
  | [d1, d2] => { results := [.lit (.bool true)], args := [d1, d2] }
  | _ => none }
def rowsColumnsRow : OpenClaim := { program := "ytfeolclpgilfdaa", sum := "371aec970810e1ac88b43a04d5a288423cb92cd245dc51cbb0b0fdc9704bc2f1", func := "winnower/winnowerlaw11.RowsColumns", spec := "rowsColumns", unfollowed := true, recurses := true, plainKeys := false, apart := false }
def RowsColumnsSaid : Prop := rowsColumnsRow.holds Try.pinned (OpenSpec.ofChange rowsColumnsSpec)

/-- ITS FALSE NEIGHBOUR: 'it returns false'. Refute it at one input. -/
def rowsColumnsWrong : ChangeSpec := { name := "rowsColumns", fn := fun _ => fun
  | [d1, d2] => { results := [.lit (.bool false)], args := [d1, d2] }
  | _ => none }
def RowsColumnsWrongFalsely : Prop := rowsColumnsRow.holds Try.pinned (OpenSpec.ofChange rowsColumnsWrong)

/- THE SECOND FORM. 'bulk': how many values and letters a reading holds, each counted each time it is reached (what is shared counts as often as it is met; a slice's spare places count too). A statement '..UptoSaid' is the law's where the arguments, and the package variables that the reading takes, are together of bulk at most 1048576: NARROWER than '..Said'. Prove '..Said' where nothing that the law and all that it calls make is longer than what came in: it says more and counts as full. Else prove '..UptoSaid'. A law counts once. -/
mutual
def uptoBulk {H : Type} : DataW H → Nat
  | .lit (.string bytes) => bytes.length + 1
  | .lit _ => 1
  | .nil => 1
  | .ptr d => uptoBulk d + 1
  | .slice elems spare => uptoBulkAll elems + uptoBulkAll spare + 1
  | .agg parts => uptoBulkAll parts + 1
  | .iface _ d => uptoBulk d + 1
  | .map entries => uptoBulkEntries entries + 1
  | .held _ => 1
def uptoBulkAll {H : Type} : List (DataW H) → Nat
  | [] => 0
  | d :: r => uptoBulk d + uptoBulkAll r
def uptoBulkEntries {H : Type} : List (Lit × DataW H) → Nat
  | [] => 0
  | x :: r => uptoBulkEntry x + uptoBulkEntries r
def uptoBulkEntry {H : Type} : Lit × DataW H → Nat
  | (.string bytes, d) => bytes.length + uptoBulk d + 1
  | (_, d) => uptoBulk d + 1
 end
def uptoSmall : (H : Type) → List (DataW H) → Bool := fun _ ds => decide (uptoBulkAll ds ≤ 1048576)
def OpenSpec.upto (s : _root_.Go.ChangeSpec) : _root_.Go.OpenSpec := { _root_.Go.OpenSpec.ofChange s with cond := some uptoSmall }

/-- 'winnowerlaw11.RowsDo', WHERE WHAT IT READS IS OF BULK AT MOST 1048576: true; the input reads as it did. -/
def rowsDoUptoRow : OpenClaim := { program := "ytfeolclpgilfdaa", sum := "371aec970810e1ac88b43a04d5a288423cb92cd245dc51cbb0b0fdc9704bc2f1", func := "winnower/winnowerlaw11.RowsDo", spec := "rowsDo", unfollowed := true, recurses := true, plainKeys := false, apart := false, narrowed := true }
def RowsDoUptoSaid : Prop := rowsDoUptoRow.holds Try.pinned (OpenSpec.upto rowsDoSpec)

/-- 'winnowerlaw11.RowsKeep', WHERE WHAT IT READS IS OF BULK AT MOST 1048576: true; the input reads as it did. -/
def rowsKeepUptoRow : OpenClaim := { program := "ytfeolclpgilfdaa", sum := "371aec970810e1ac88b43a04d5a288423cb92cd245dc51cbb0b0fdc9704bc2f1", func := "winnower/winnowerlaw11.RowsKeep", spec := "rowsKeep", unfollowed := true, recurses := true, plainKeys := false, apart := false, narrowed := true }
def RowsKeepUptoSaid : Prop := rowsKeepUptoRow.holds Try.pinned (OpenSpec.upto rowsKeepSpec)

/-- 'winnowerlaw11.RowsNone', WHERE WHAT IT READS IS OF BULK AT MOST 1048576: true; the input reads as it did. -/
def rowsNoneUptoRow : OpenClaim := { program := "ytfeolclpgilfdaa", sum := "371aec970810e1ac88b43a04d5a288423cb92cd245dc51cbb0b0fdc9704bc2f1", func := "winnower/winnowerlaw11.RowsNone", spec := "rowsNone", unfollowed := true, recurses := true, plainKeys := false, apart := false, narrowed := true }
def RowsNoneUptoSaid : Prop := rowsNoneUptoRow.holds Try.pinned (OpenSpec.upto rowsNoneSpec)

/-- 'winnowerlaw11.RowsLimits', WHERE WHAT IT READS IS OF BULK AT MOST 1048576: true; the input reads as it did. -/
def rowsLimitsUptoRow : OpenClaim := { program := "ytfeolclpgilfdaa", sum := "371aec970810e1ac88b43a04d5a288423cb92cd245dc51cbb0b0fdc9704bc2f1", func := "winnower/winnowerlaw11.RowsLimits", spec := "rowsLimits", unfollowed := true, recurses := true, plainKeys := false, apart := false, narrowed := true }
def RowsLimitsUptoSaid : Prop := rowsLimitsUptoRow.holds Try.pinned (OpenSpec.upto rowsLimitsSpec)

/-- 'winnowerlaw11.RowsColumns', WHERE WHAT IT READS IS OF BULK AT MOST 1048576: true; the input reads as it did. -/
def rowsColumnsUptoRow : OpenClaim := { program := "ytfeolclpgilfdaa", sum := "371aec970810e1ac88b43a04d5a288423cb92cd245dc51cbb0b0fdc9704bc2f1", func := "winnower/winnowerlaw11.RowsColumns", spec := "rowsColumns", unfollowed := true, recurses := true, plainKeys := false, apart := false, narrowed := true }
def RowsColumnsUptoSaid : Prop := rowsColumnsUptoRow.holds Try.pinned (OpenSpec.upto rowsColumnsSpec)

end Rows
end Go.Proofs.Ytfeolclpgilfdaa
