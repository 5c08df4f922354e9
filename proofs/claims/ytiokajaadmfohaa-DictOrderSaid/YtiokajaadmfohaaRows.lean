/-
  No cell of these rows narrows 'for every input' (looked for: loops, veiled, ifaces, maps, wideKeys, modest, calm, conditions, laid).
  DERIVED. THE GIVEN ROWS OF THIS SEAT. 6 by the template 'for every input the law returns true; each argument reads behind the call as it read before'; 0 by the template 'total and deterministic' (their statements: YtiokajaadmfohaaTotals.lean).
  GIVEN WITH THE SEED: the statements are not yours to turn. If you find one false, say at which input.
  Laid BY PROGRAM, IN A SANDBOX (cutbox-rows.mjs): the forced cells as the released guide's own fill.sh prints them over the translation 06150754773d06ec… (all of the seat's roots in one cut). By AI agents, Wed Nov 11 2026. No macro, syntax, notation, axiom, sorry.
-/
import Derived.Test.YtiokajaadmfohaaChecked
import GoSem.Claim
import GoSem.ClaimJoined
import GoSem.ClaimMapViews
import Derived.JoinedTies
import Derived.KernelRfl
namespace Go.Proofs.Ytiokajaadmfohaa
/- THE CELL 'sum', in the pinned program and in every row, IS THE sha256 OF THE DUMP (.gsa) THAT YtiokajaadmfohaaProg.lean LOADS. Nothing in Lean hashes anything: it is a label: what it is worth is what the hold of that sum in a sandbox is worth. -/
noncomputable def Try.pinned : Pinned := { name := "ytiokajaadmfohaa", sum := "06150754773d06ecfc550d05654fac02fd363a655c849b6bcb06ca87c49e0952", checked := Try.checked }
namespace Rows
def none {H : Type} : Left H := { results := [], args := [] }

/-- 'winnowerlaw08.DictDoes': WHATEVER THE INPUT: true; the input reads as it did. -/
def dictDoesSpec : ChangeSpec := { name := "dictDoes", fn := fun _ => fun
  | [d1, d2, d3, d4] => { results := [.lit (.bool true)], args := [d1, d2, d3, d4] }
  | _ => none }
def dictDoesRow : OpenClaim := { program := "ytiokajaadmfohaa", sum := "06150754773d06ecfc550d05654fac02fd363a655c849b6bcb06ca87c49e0952", func := "winnower/winnowerlaw08.DictDoes", spec := "dictDoes", unfollowed := true, recurses := true, plainKeys := false, apart := false }
def DictDoesSaid : Prop := dictDoesRow.holds Try.pinned (OpenSpec.ofChange dictDoesSpec)

/-- ITS FALSE NEIGHBOUR: 'it returns false'. Refute it at one input. -/
def dictDoesWrong : ChangeSpec := { name := "dictDoes", fn := fun _ => fun
  | [d1, d2, d3, d4] => { results := [.lit (.bool false)], args := [d1, d2, d3, d4] }
  | _ => none }
def DictDoesWrongFalsely : Prop := dictDoesRow.holds Try.pinned (OpenSpec.ofChange dictDoesWrong)

/-- 'winnowerlaw08.DictSearches': WHATEVER THE INPUT: true; the input reads as it did. -/
def dictSearchesSpec : ChangeSpec := { name := "dictSearches", fn := fun _ => fun
  | [d1, d2] => { results := [.lit (.bool true)], args := [d1, d2] }
  | _ => none }
def dictSearchesRow : OpenClaim := { program := "ytiokajaadmfohaa", sum := "06150754773d06ecfc550d05654fac02fd363a655c849b6bcb06ca87c49e0952", func := "winnower/winnowerlaw08.DictSearches", spec := "dictSearches", unfollowed := true, recurses := true, plainKeys := false, apart := false }
def DictSearchesSaid : Prop := dictSearchesRow.holds Try.pinned (OpenSpec.ofChange dictSearchesSpec)

/-- ITS FALSE NEIGHBOUR: 'it returns false'. Refute it at one input. -/
def dictSearchesWrong : ChangeSpec := { name := "dictSearches", fn := fun _ => fun
  | [d1, d2] => { results := [.lit (.bool false)], args := [d1, d2] }
  | _ => none }
def DictSearchesWrongFalsely : Prop := dictSearchesRow.holds Try.pinned (OpenSpec.ofChange dictSearchesWrong)

/-- 'winnowerlaw08.DictKeeps': WHATEVER THE INPUT: true; the input reads as it did. -/
def dictKeepsSpec : ChangeSpec := { name := "dictKeeps", fn := fun _ => fun
  | [d1, d2] => { results := [.lit (.bool true)], args := [d1, d2] }
  | _ => none }
def dictKeepsRow : OpenClaim := { program := "ytiokajaadmfohaa", sum := "06150754773d06ecfc550d05654fac02fd363a655c849b6bcb06ca87c49e0952", func := "winnower/winnowerlaw08.DictKeeps", spec := "dictKeeps", unfollowed := true, recurses := true, plainKeys := false, apart := false }
def DictKeepsSaid : Prop := dictKeepsRow.holds Try.pinned (OpenSpec.ofChange dictKeepsSpec)

/-- ITS FALSE NEIGHBOUR: 'it returns false'. Refute it at one input. -/
def dictKeepsWrong : ChangeSpec := { name := "dictKeeps", fn := fun _ => fun
  | [d1, d2] => { results := [.lit (.bool false)], args := [d1, d2] }
  | _ => none }
def DictKeepsWrongFalsely : Prop := dictKeepsRow.holds Try.pinned (OpenSpec.ofChange dictKeepsWrong)

/-- 'winnowerlaw08.DictNone': WHATEVER THE INPUT: true; the input reads as it did. -/
def dictNoneSpec : ChangeSpec := { name := "dictNone", fn := fun _ => fun
  | [d1, d2] => { results := [.lit (.bool true)], args := [d1, d2] }
  | _ => none }
def dictNoneRow : OpenClaim := { program := "ytiokajaadmfohaa", sum := "06150754773d06ecfc550d05654fac02fd363a655c849b6bcb06ca87c49e0952", func := "winnower/winnowerlaw08.DictNone", spec := "dictNone", unfollowed := true, recurses := true, plainKeys := false, apart := false }
def DictNoneSaid : Prop := dictNoneRow.holds Try.pinned (OpenSpec.ofChange dictNoneSpec)

/-- ITS FALSE NEIGHBOUR: 'it returns false'. Refute it at one input. -/
def dictNoneWrong : ChangeSpec := { name := "dictNone", fn := fun _ => fun
  | [d1, d2] => { results := [.lit (.bool false)], args := [d1, d2] }
  | _ => none }
def DictNoneWrongFalsely : Prop := dictNoneRow.holds Try.pinned (OpenSpec.ofChange dictNoneWrong)

/-- 'winnowerlaw08.DictOrder': WHATEVER THE INPUT: true; the input reads as it did. -/
def dictOrderSpec : ChangeSpec := { name := "dictOrder", fn := fun _ => fun
  | [d] => { results := [.lit (.bool true)], args := [d] }
  | _ => none }
def dictOrderRow : OpenClaim := { program := "ytiokajaadmfohaa", sum := "06150754773d06ecfc550d05654fac02fd363a655c849b6bcb06ca87c49e0952", func := "winnower/winnowerlaw08.DictOrder", spec := "dictOrder", unfollowed := true, recurses := true, plainKeys := false, apart := false }
def DictOrderSaid : Prop := dictOrderRow.holds Try.pinned (OpenSpec.ofChange dictOrderSpec)

/-- ITS FALSE NEIGHBOUR: 'it returns false'. Refute it at one input. -/
def dictOrderWrong : ChangeSpec := { name := "dictOrder", fn := fun _ => fun
  | [d] => { results := [.lit (.bool false)], args := [d] }
  | _ => none }
def DictOrderWrongFalsely : Prop := dictOrderRow.holds Try.pinned (OpenSpec.ofChange dictOrderWrong)

/-- 'winnowerlaw08.DictPlaces': WHATEVER THE INPUT: true; the input reads as it did. -/
def dictPlacesSpec : ChangeSpec := { name := "dictPlaces", fn := fun _ => fun
  | [d1, d2] => { results := [.lit (.bool true)], args := [d1, d2] }
  | _ => none }
def dictPlacesRow : OpenClaim := { program := "ytiokajaadmfohaa", sum := "06150754773d06ecfc550d05654fac02fd363a655c849b6bcb06ca87c49e0952", func := "winnower/winnowerlaw08.DictPlaces", spec := "dictPlaces", unfollowed := true, recurses := true, plainKeys := false, apart := false }
def DictPlacesSaid : Prop := dictPlacesRow.holds Try.pinned (OpenSpec.ofChange dictPlacesSpec)

/-- ITS FALSE NEIGHBOUR: 'it returns false'. Refute it at one input. -/
def dictPlacesWrong : ChangeSpec := { name := "dictPlaces", fn := fun _ => fun
  | [d1, d2] => { results := [.lit (.bool false)], args := [d1, d2] }
  | _ => none }
def DictPlacesWrongFalsely : Prop := dictPlacesRow.holds Try.pinned (OpenSpec.ofChange dictPlacesWrong)

/- THE SECOND FORM. 'bulk': how many values and letters a reading holds, each counted each time it is reached (what is shared counts as often as it is met; a slice's spare places count too). A statement '..UptoSaid' is the law's where the arguments, and the package variables that the reading takes, are together of bulk at most 1048576: NARROWER than '..Said'. Prove '..Said' where nothing that the law and all that it calls make is longer than what came in: it says more and counts as full. Else prove '..UptoSaid'. A law counts once. -/
mutual
def uptoBulk {H : Type} : DataW H → Nat
  | .lit (.string bytes) => bytes.length + 1
  | .lit _ => 1
  | .nil => 1
  | .ptr d => uptoBulk d + 1
  | .slice elems spare => uptoBulkAll elems + uptoBulkAll spare + 1
  | .agg parts => uptoBulkAll parts + 1
  | .iface _ d => uptoBulk d + 1
  | .map entries => uptoBulkEntries entries + 1
  | .held _ => 1
def uptoBulkAll {H : Type} : List (DataW H) → Nat
  | [] => 0
  | d :: r => uptoBulk d + uptoBulkAll r
def uptoBulkEntries {H : Type} : List (Lit × DataW H) → Nat
  | [] => 0
  | x :: r => uptoBulkEntry x + uptoBulkEntries r
def uptoBulkEntry {H : Type} : Lit × DataW H → Nat
  | (.string bytes, d) => bytes.length + uptoBulk d + 1
  | (_, d) => uptoBulk d + 1
 end
def uptoSmall : (H : Type) → List (DataW H) → Bool := fun _ ds => decide (uptoBulkAll ds ≤ 1048576)
def OpenSpec.upto (s : _root_.Go.ChangeSpec) : _root_.Go.OpenSpec := { _root_.Go.OpenSpec.ofChange s with cond := some uptoSmall }

/-- 'winnowerlaw08.DictDoes', WHERE WHAT IT READS IS OF BULK AT MOST 1048576: true; the input reads as it did. -/
def dictDoesUptoRow : OpenClaim := { program := "ytiokajaadmfohaa", sum := "06150754773d06ecfc550d05654fac02fd363a655c849b6bcb06ca87c49e0952", func := "winnower/winnowerlaw08.DictDoes", spec := "dictDoes", unfollowed := true, recurses := true, plainKeys := false, apart := false, narrowed := true }
def DictDoesUptoSaid : Prop := dictDoesUptoRow.holds Try.pinned (OpenSpec.upto dictDoesSpec)

/-- 'winnowerlaw08.DictSearches', WHERE WHAT IT READS IS OF BULK AT MOST 1048576: true; the input reads as it did. -/
def dictSearchesUptoRow : OpenClaim := { program := "ytiokajaadmfohaa", sum := "06150754773d06ecfc550d05654fac02fd363a655c849b6bcb06ca87c49e0952", func := "winnower/winnowerlaw08.DictSearches", spec := "dictSearches", unfollowed := true, recurses := true, plainKeys := false, apart := false, narrowed := true }
def DictSearchesUptoSaid : Prop := dictSearchesUptoRow.holds Try.pinned (OpenSpec.upto dictSearchesSpec)

/-- 'winnowerlaw08.DictKeeps', WHERE WHAT IT READS IS OF BULK AT MOST 1048576: true; the input reads as it did. -/
def dictKeepsUptoRow : OpenClaim := { program := "ytiokajaadmfohaa", sum := "06150754773d06ecfc550d05654fac02fd363a655c849b6bcb06ca87c49e0952", func := "winnower/winnowerlaw08.DictKeeps", spec := "dictKeeps", unfollowed := true, recurses := true, plainKeys := false, apart := false, narrowed := true }
def DictKeepsUptoSaid : Prop := dictKeepsUptoRow.holds Try.pinned (OpenSpec.upto dictKeepsSpec)

/-- 'winnowerlaw08.DictNone', WHERE WHAT IT READS IS OF BULK AT MOST 1048576: true; the input reads as it did. -/
def dictNoneUptoRow : OpenClaim := { program := "ytiokajaadmfohaa", sum := "06150754773d06ecfc550d05654fac02fd363a655c849b6bcb06ca87c49e0952", func := "winnower/winnowerlaw08.DictNone", spec := "dictNone", unfollowed := true, recurses := true, plainKeys := false, apart := false, narrowed := true }
def DictNoneUptoSaid : Prop := dictNoneUptoRow.holds Try.pinned (OpenSpec.upto dictNoneSpec)

/-- 'winnowerlaw08.DictOrder', WHERE WHAT IT READS IS OF BULK AT MOST 1048576: true; the input reads as it did. -/
def dictOrderUptoRow : OpenClaim := { program := "ytiokajaadmfohaa", sum := "06150754773d06ecfc550d05654fac02fd363a655c849b6bcb06ca87c49e0952", func := "winnower/winnowerlaw08.DictOrder", spec := "dictOrder", unfollowed := true, recurses := true, plainKeys := false, apart := false, narrowed := true }
def DictOrderUptoSaid : Prop := dictOrderUptoRow.holds Try.pinned (OpenSpec.upto dictOrderSpec)

/-- 'winnowerlaw08.DictPlaces', WHERE WHAT IT READS IS OF BULK AT MOST 1048576: true; the input reads as it did. -/
def dictPlacesUptoRow : OpenClaim := { program := "ytiokajaadmfohaa", sum := "06150754773d06ecfc550d05654fac02fd363a655c849b6bcb06ca87c49e0952", func := "winnower/winnowerlaw08.DictPlaces", spec := "dictPlaces", unfollowed := true, recurses := true, plainKeys := false, apart := false, narrowed := true }
def DictPlacesUptoSaid : Prop := dictPlacesUptoRow.holds Try.pinned (OpenSpec.upto dictPlacesSpec)

end Rows
end Go.Proofs.Ytiokajaadmfohaa
