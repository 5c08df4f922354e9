/-
  NARROWER THAN 'FOR EVERY INPUT', by the rows' own cells (each row's printed sentence says how): UpsertDoes: laid · UpsertOrder: laid · UpsertOnce: laid · UpsertSeals: laid · UpsertNone: laid · UpsertWins: laid · UpsertKeys: laid.
  DERIVED. THE GIVEN ROWS OF THIS SEAT. 7 by the template 'for every input the law returns true; each argument reads behind the call as it read before'; 0 by the template 'total and deterministic' (their statements: YtpappcmgnnmbeaaDoorTotals.lean).
  GIVEN WITH THE SEED: the statements are not yours to turn. If you find one false, say at which input.
  Laid BY PROGRAM, IN A SANDBOX (cutbox-rows.mjs): the forced cells as the released guide's own fill.sh prints them over the translation b5f333aee55803e7… (all of the seat's roots in one cut). By AI agents, Wed Nov 11 2026. No macro, syntax, notation, axiom, sorry.
-/
import Derived.Test.YtpappcmgnnmbeaaDoorChecked
import GoSem.Claim
import GoSem.ClaimJoined
import GoSem.ClaimMapViews
import Derived.JoinedTies
import Derived.KernelRfl
namespace Go.Proofs.YtpappcmgnnmbeaaDoor
/- THE CELL 'sum', in the pinned program and in every row, IS THE sha256 OF THE DUMP (.gsa) THAT YtpappcmgnnmbeaaDoorProg.lean LOADS. Nothing in Lean hashes anything: it is a label: what it is worth is what the hold of that sum in a sandbox is worth. -/
noncomputable def Tryd.pinned : Pinned := { name := "ytpappcmgnnmbeaadoor", sum := "b5f333aee55803e7039d55e8401187b939c8c7f88178a6481fd80e4b491bbb2b", checked := Tryd.checked }
namespace Rows
def none {H : Type} : Left H := { results := [], args := [] }

/- WHAT THE LISTED PACKAGE-LEVEL VARIABLES READ AS WHEN THE CALL BEGINS. Each datum BY PROGRAM (the guide's laid-datum.mjs) off the statement by which the dump's own 'gosem.cut.vars' lays the variable. In a bare row this is a premise. The card (YtpappcmgnnmbeaaDoorCards.lean) ties it to the program's text. -/
def laid_math_bits_deBruijn64tab {H : Type} : DataW H := .agg [.lit (.int .u8 0), .lit (.int .u8 1), .lit (.int .u8 56), .lit (.int .u8 2), .lit (.int .u8 57), .lit (.int .u8 49), .lit (.int .u8 28), .lit (.int .u8 3), .lit (.int .u8 61), .lit (.int .u8 58), .lit (.int .u8 42), .lit (.int .u8 50), .lit (.int .u8 38), .lit (.int .u8 29), .lit (.int .u8 17), .lit (.int .u8 4), .lit (.int .u8 62), .lit (.int .u8 47), .lit (.int .u8 59), .lit (.int .u8 36), .lit (.int .u8 45), .lit (.int .u8 43), .lit (.int .u8 51), .lit (.int .u8 22), .lit (.int .u8 53), .lit (.int .u8 39), .lit (.int .u8 33), .lit (.int .u8 30), .lit (.int .u8 24), .lit (.int .u8 18), .lit (.int .u8 12), .lit (.int .u8 5), .lit (.int .u8 63), .lit (.int .u8 55), .lit (.int .u8 48), .lit (.int .u8 27), .lit (.int .u8 60), .lit (.int .u8 41), .lit (.int .u8 37), .lit (.int .u8 16), .lit (.int .u8 46), .lit (.int .u8 35), .lit (.int .u8 44), .lit (.int .u8 21), .lit (.int .u8 52), .lit (.int .u8 32), .lit (.int .u8 23), .lit (.int .u8 11), .lit (.int .u8 54), .lit (.int .u8 26), .lit (.int .u8 40), .lit (.int .u8 15), .lit (.int .u8 34), .lit (.int .u8 20), .lit (.int .u8 31), .lit (.int .u8 10), .lit (.int .u8 25), .lit (.int .u8 14), .lit (.int .u8 19), .lit (.int .u8 9), .lit (.int .u8 13), .lit (.int .u8 8), .lit (.int .u8 7), .lit (.int .u8 6)]

/-- 'winnowerlaw15.UpsertDoes': WHATEVER THE INPUT: true; the input reads as it did. -/
def upsertDoesSpec : ChangeSpec := { name := "upsertDoes", fn := fun _ => fun
  | [d1, d2, d3, d4] => { results := [.lit (.bool true)], args := [d1, d2, d3, d4] }
  | _ => none }
def upsertDoesRow : OpenClaim := { program := "ytpappcmgnnmbeaadoor", sum := "b5f333aee55803e7039d55e8401187b939c8c7f88178a6481fd80e4b491bbb2b", func := "winnower/winnowerlaw15.UpsertDoes", spec := "upsertDoes", unfollowed := true, recurses := true, named := ["math/bits.deBruijn64tab"], plainKeys := false, apart := false, laid := [("math/bits.deBruijn64tab", laid_math_bits_deBruijn64tab)] }
def UpsertDoesSaid : Prop := upsertDoesRow.holds Tryd.pinned (OpenSpec.ofChange upsertDoesSpec)

/-- ITS FALSE NEIGHBOUR: 'it returns false'. Refute it at one input. -/
def upsertDoesWrong : ChangeSpec := { name := "upsertDoes", fn := fun _ => fun
  | [d1, d2, d3, d4] => { results := [.lit (.bool false)], args := [d1, d2, d3, d4] }
  | _ => none }
def UpsertDoesWrongFalsely : Prop := upsertDoesRow.holds Tryd.pinned (OpenSpec.ofChange upsertDoesWrong)

/-- 'winnowerlaw15.UpsertOrder': WHATEVER THE INPUT: true; the input reads as it did. -/
def upsertOrderSpec : ChangeSpec := { name := "upsertOrder", fn := fun _ => fun
  | [d1, d2] => { results := [.lit (.bool true)], args := [d1, d2] }
  | _ => none }
def upsertOrderRow : OpenClaim := { program := "ytpappcmgnnmbeaadoor", sum := "b5f333aee55803e7039d55e8401187b939c8c7f88178a6481fd80e4b491bbb2b", func := "winnower/winnowerlaw15.UpsertOrder", spec := "upsertOrder", unfollowed := true, recurses := true, named := ["math/bits.deBruijn64tab"], plainKeys := false, apart := false, laid := [("math/bits.deBruijn64tab", laid_math_bits_deBruijn64tab)] }
def UpsertOrderSaid : Prop := upsertOrderRow.holds Tryd.pinned (OpenSpec.ofChange upsertOrderSpec)

/-- ITS FALSE NEIGHBOUR: 'it returns false'. Refute it at one input. -/
def upsertOrderWrong : ChangeSpec := { name := "upsertOrder", fn := fun _ => fun
  | [d1, d2] => { results := [.lit (.bool false)], args := [d1, d2] }
  | _ => none }
def UpsertOrderWrongFalsely : Prop := upsertOrderRow.holds Tryd.pinned (OpenSpec.ofChange upsertOrderWrong)

/-- 'winnowerlaw15.UpsertOnce': WHATEVER THE INPUT: true; the input reads as it did. -/
def upsertOnceSpec : ChangeSpec := { name := "upsertOnce", fn := fun _ => fun
  | [d1, d2] => { results := [.lit (.bool true)], args := [d1, d2] }
  | _ => none }
def upsertOnceRow : OpenClaim := { program := "ytpappcmgnnmbeaadoor", sum := "b5f333aee55803e7039d55e8401187b939c8c7f88178a6481fd80e4b491bbb2b", func := "winnower/winnowerlaw15.UpsertOnce", spec := "upsertOnce", unfollowed := true, recurses := true, named := ["math/bits.deBruijn64tab"], plainKeys := false, apart := false, laid := [("math/bits.deBruijn64tab", laid_math_bits_deBruijn64tab)] }
def UpsertOnceSaid : Prop := upsertOnceRow.holds Tryd.pinned (OpenSpec.ofChange upsertOnceSpec)

/-- ITS FALSE NEIGHBOUR: 'it returns false'. Refute it at one input. -/
def upsertOnceWrong : ChangeSpec := { name := "upsertOnce", fn := fun _ => fun
  | [d1, d2] => { results := [.lit (.bool false)], args := [d1, d2] }
  | _ => none }
def UpsertOnceWrongFalsely : Prop := upsertOnceRow.holds Tryd.pinned (OpenSpec.ofChange upsertOnceWrong)

/-- 'winnowerlaw15.UpsertSeals': WHATEVER THE INPUT: true; the input reads as it did. -/
def upsertSealsSpec : ChangeSpec := { name := "upsertSeals", fn := fun _ => fun
  | [d1, d2, d3, d4] => { results := [.lit (.bool true)], args := [d1, d2, d3, d4] }
  | _ => none }
def upsertSealsRow : OpenClaim := { program := "ytpappcmgnnmbeaadoor", sum := "b5f333aee55803e7039d55e8401187b939c8c7f88178a6481fd80e4b491bbb2b", func := "winnower/winnowerlaw15.UpsertSeals", spec := "upsertSeals", unfollowed := true, recurses := true, named := ["math/bits.deBruijn64tab"], plainKeys := false, apart := false, laid := [("math/bits.deBruijn64tab", laid_math_bits_deBruijn64tab)] }
def UpsertSealsSaid : Prop := upsertSealsRow.holds Tryd.pinned (OpenSpec.ofChange upsertSealsSpec)

/-- ITS FALSE NEIGHBOUR: 'it returns false'. Refute it at one input. -/
def upsertSealsWrong : ChangeSpec := { name := "upsertSeals", fn := fun _ => fun
  | [d1, d2, d3, d4] => { results := [.lit (.bool false)], args := [d1, d2, d3, d4] }
  | _ => none }
def UpsertSealsWrongFalsely : Prop := upsertSealsRow.holds Tryd.pinned (OpenSpec.ofChange upsertSealsWrong)

/-- 'winnowerlaw15.UpsertNone': WHATEVER THE INPUT: true; the input reads as it did. -/
def upsertNoneSpec : ChangeSpec := { name := "upsertNone", fn := fun _ => fun
  | [d1, d2] => { results := [.lit (.bool true)], args := [d1, d2] }
  | _ => none }
def upsertNoneRow : OpenClaim := { program := "ytpappcmgnnmbeaadoor", sum := "b5f333aee55803e7039d55e8401187b939c8c7f88178a6481fd80e4b491bbb2b", func := "winnower/winnowerlaw15.UpsertNone", spec := "upsertNone", unfollowed := true, recurses := true, named := ["math/bits.deBruijn64tab"], plainKeys := false, apart := false, laid := [("math/bits.deBruijn64tab", laid_math_bits_deBruijn64tab)] }
def UpsertNoneSaid : Prop := upsertNoneRow.holds Tryd.pinned (OpenSpec.ofChange upsertNoneSpec)

/-- ITS FALSE NEIGHBOUR: 'it returns false'. Refute it at one input. -/
def upsertNoneWrong : ChangeSpec := { name := "upsertNone", fn := fun _ => fun
  | [d1, d2] => { results := [.lit (.bool false)], args := [d1, d2] }
  | _ => none }
def UpsertNoneWrongFalsely : Prop := upsertNoneRow.holds Tryd.pinned (OpenSpec.ofChange upsertNoneWrong)

/-- 'winnowerlaw15.UpsertWins': WHATEVER THE INPUT: true; the input reads as it did. -/
def upsertWinsSpec : ChangeSpec := { name := "upsertWins", fn := fun _ => fun
  | [d1, d2, d3, d4] => { results := [.lit (.bool true)], args := [d1, d2, d3, d4] }
  | _ => none }
def upsertWinsRow : OpenClaim := { program := "ytpappcmgnnmbeaadoor", sum := "b5f333aee55803e7039d55e8401187b939c8c7f88178a6481fd80e4b491bbb2b", func := "winnower/winnowerlaw15.UpsertWins", spec := "upsertWins", unfollowed := true, recurses := true, named := ["math/bits.deBruijn64tab"], plainKeys := false, apart := false, laid := [("math/bits.deBruijn64tab", laid_math_bits_deBruijn64tab)] }
def UpsertWinsSaid : Prop := upsertWinsRow.holds Tryd.pinned (OpenSpec.ofChange upsertWinsSpec)

/-- ITS FALSE NEIGHBOUR: 'it returns false'. Refute it at one input. -/
def upsertWinsWrong : ChangeSpec := { name := "upsertWins", fn := fun _ => fun
  | [d1, d2, d3, d4] => { results := [.lit (.bool false)], args := [d1, d2, d3, d4] }
  | _ => none }
def UpsertWinsWrongFalsely : Prop := upsertWinsRow.holds Tryd.pinned (OpenSpec.ofChange upsertWinsWrong)

/-- 'winnowerlaw15.UpsertKeys': WHATEVER THE INPUT: true; the input reads as it did. -/
def upsertKeysSpec : ChangeSpec := { name := "upsertKeys", fn := fun _ => fun
  | [d1, d2] => { results := [.lit (.bool true)], args := [d1, d2] }
  | _ => none }
def upsertKeysRow : OpenClaim := { program := "ytpappcmgnnmbeaadoor", sum := "b5f333aee55803e7039d55e8401187b939c8c7f88178a6481fd80e4b491bbb2b", func := "winnower/winnowerlaw15.UpsertKeys", spec := "upsertKeys", unfollowed := true, recurses := true, named := ["math/bits.deBruijn64tab"], plainKeys := false, apart := false, laid := [("math/bits.deBruijn64tab", laid_math_bits_deBruijn64tab)] }
def UpsertKeysSaid : Prop := upsertKeysRow.holds Tryd.pinned (OpenSpec.ofChange upsertKeysSpec)

/-- ITS FALSE NEIGHBOUR: 'it returns false'. Refute it at one input. -/
def upsertKeysWrong : ChangeSpec := { name := "upsertKeys", fn := fun _ => fun
  | [d1, d2] => { results := [.lit (.bool false)], args := [d1, d2] }
  | _ => none }
def UpsertKeysWrongFalsely : Prop := upsertKeysRow.holds Tryd.pinned (OpenSpec.ofChange upsertKeysWrong)

/- THE SECOND FORM. 'bulk': how many values and letters a reading holds, each counted each time it is reached (what is shared counts as often as it is met; a slice's spare places count too). A statement '..UptoSaid' is the law's where the arguments, and the package variables that the reading takes, are together of bulk at most 1048576: NARROWER than '..Said'. Prove '..Said' where nothing that the law and all that it calls make is longer than what came in: it says more and counts as full. Else prove '..UptoSaid'. A law counts once. -/
mutual
def uptoBulk {H : Type} : DataW H → Nat
  | .lit (.string bytes) => bytes.length + 1
  | .lit _ => 1
  | .nil => 1
  | .ptr d => uptoBulk d + 1
  | .slice elems spare => uptoBulkAll elems + uptoBulkAll spare + 1
  | .agg parts => uptoBulkAll parts + 1
  | .iface _ d => uptoBulk d + 1
  | .map entries => uptoBulkEntries entries + 1
  | .held _ => 1
def uptoBulkAll {H : Type} : List (DataW H) → Nat
  | [] => 0
  | d :: r => uptoBulk d + uptoBulkAll r
def uptoBulkEntries {H : Type} : List (Lit × DataW H) → Nat
  | [] => 0
  | x :: r => uptoBulkEntry x + uptoBulkEntries r
def uptoBulkEntry {H : Type} : Lit × DataW H → Nat
  | (.string bytes, d) => bytes.length + uptoBulk d + 1
  | (_, d) => uptoBulk d + 1
 end
def uptoSmall : (H : Type) → List (DataW H) → Bool := fun _ ds => decide (uptoBulkAll ds ≤ 1048576)
def OpenSpec.upto (s : _root_.Go.ChangeSpec) : _root_.Go.OpenSpec := { _root_.Go.OpenSpec.ofChange s with cond := some uptoSmall }

/-- 'winnowerlaw15.UpsertDoes', WHERE WHAT IT READS IS OF BULK AT MOST 1048576: true; the input reads as it did. -/
def upsertDoesUptoRow : OpenClaim := { program := "ytpappcmgnnmbeaadoor", sum := "b5f333aee55803e7039d55e8401187b939c8c7f88178a6481fd80e4b491bbb2b", func := "winnower/winnowerlaw15.UpsertDoes", spec := "upsertDoes", unfollowed := true, recurses := true, named := ["math/bits.deBruijn64tab"], plainKeys := false, apart := false, laid := [("math/bits.deBruijn64tab", laid_math_bits_deBruijn64tab)], narrowed := true }
def UpsertDoesUptoSaid : Prop := upsertDoesUptoRow.holds Tryd.pinned (OpenSpec.upto upsertDoesSpec)

/-- 'winnowerlaw15.UpsertOrder', WHERE WHAT IT READS IS OF BULK AT MOST 1048576: true; the input reads as it did. -/
def upsertOrderUptoRow : OpenClaim := { program := "ytpappcmgnnmbeaadoor", sum := "b5f333aee55803e7039d55e8401187b939c8c7f88178a6481fd80e4b491bbb2b", func := "winnower/winnowerlaw15.UpsertOrder", spec := "upsertOrder", unfollowed := true, recurses := true, named := ["math/bits.deBruijn64tab"], plainKeys := false, apart := false, laid := [("math/bits.deBruijn64tab", laid_math_bits_deBruijn64tab)], narrowed := true }
def UpsertOrderUptoSaid : Prop := upsertOrderUptoRow.holds Tryd.pinned (OpenSpec.upto upsertOrderSpec)

/-- 'winnowerlaw15.UpsertOnce', WHERE WHAT IT READS IS OF BULK AT MOST 1048576: true; the input reads as it did. -/
def upsertOnceUptoRow : OpenClaim := { program := "ytpappcmgnnmbeaadoor", sum := "b5f333aee55803e7039d55e8401187b939c8c7f88178a6481fd80e4b491bbb2b", func := "winnower/winnowerlaw15.UpsertOnce", spec := "upsertOnce", unfollowed := true, recurses := true, named := ["math/bits.deBruijn64tab"], plainKeys := false, apart := false, laid := [("math/bits.deBruijn64tab", laid_math_bits_deBruijn64tab)], narrowed := true }
def UpsertOnceUptoSaid : Prop := upsertOnceUptoRow.holds Tryd.pinned (OpenSpec.upto upsertOnceSpec)

/-- 'winnowerlaw15.UpsertSeals', WHERE WHAT IT READS IS OF BULK AT MOST 1048576: true; the input reads as it did. -/
def upsertSealsUptoRow : OpenClaim := { program := "ytpappcmgnnmbeaadoor", sum := "b5f333aee55803e7039d55e8401187b939c8c7f88178a6481fd80e4b491bbb2b", func := "winnower/winnowerlaw15.UpsertSeals", spec := "upsertSeals", unfollowed := true, recurses := true, named := ["math/bits.deBruijn64tab"], plainKeys := false, apart := false, laid := [("math/bits.deBruijn64tab", laid_math_bits_deBruijn64tab)], narrowed := true }
def UpsertSealsUptoSaid : Prop := upsertSealsUptoRow.holds Tryd.pinned (OpenSpec.upto upsertSealsSpec)

/-- 'winnowerlaw15.UpsertNone', WHERE WHAT IT READS IS OF BULK AT MOST 1048576: true; the input reads as it did. -/
def upsertNoneUptoRow : OpenClaim := { program := "ytpappcmgnnmbeaadoor", sum := "b5f333aee55803e7039d55e8401187b939c8c7f88178a6481fd80e4b491bbb2b", func := "winnower/winnowerlaw15.UpsertNone", spec := "upsertNone", unfollowed := true, recurses := true, named := ["math/bits.deBruijn64tab"], plainKeys := false, apart := false, laid := [("math/bits.deBruijn64tab", laid_math_bits_deBruijn64tab)], narrowed := true }
def UpsertNoneUptoSaid : Prop := upsertNoneUptoRow.holds Tryd.pinned (OpenSpec.upto upsertNoneSpec)

/-- 'winnowerlaw15.UpsertWins', WHERE WHAT IT READS IS OF BULK AT MOST 1048576: true; the input reads as it did. -/
def upsertWinsUptoRow : OpenClaim := { program := "ytpappcmgnnmbeaadoor", sum := "b5f333aee55803e7039d55e8401187b939c8c7f88178a6481fd80e4b491bbb2b", func := "winnower/winnowerlaw15.UpsertWins", spec := "upsertWins", unfollowed := true, recurses := true, named := ["math/bits.deBruijn64tab"], plainKeys := false, apart := false, laid := [("math/bits.deBruijn64tab", laid_math_bits_deBruijn64tab)], narrowed := true }
def UpsertWinsUptoSaid : Prop := upsertWinsUptoRow.holds Tryd.pinned (OpenSpec.upto upsertWinsSpec)

/-- 'winnowerlaw15.UpsertKeys', WHERE WHAT IT READS IS OF BULK AT MOST 1048576: true; the input reads as it did. -/
def upsertKeysUptoRow : OpenClaim := { program := "ytpappcmgnnmbeaadoor", sum := "b5f333aee55803e7039d55e8401187b939c8c7f88178a6481fd80e4b491bbb2b", func := "winnower/winnowerlaw15.UpsertKeys", spec := "upsertKeys", unfollowed := true, recurses := true, named := ["math/bits.deBruijn64tab"], plainKeys := false, apart := false, laid := [("math/bits.deBruijn64tab", laid_math_bits_deBruijn64tab)], narrowed := true }
def UpsertKeysUptoSaid : Prop := upsertKeysUptoRow.holds Tryd.pinned (OpenSpec.upto upsertKeysSpec)

end Rows
end Go.Proofs.YtpappcmgnnmbeaaDoor
