/-
  DERIVED. GIVEN WITH THE SEED: THE CARDS: each row of YtgmjafammdkgfaaDoorRows.lean that lists a variable, with what it lists TIED to the program's text (the seventh form; the later family's looks); each row that meets fmt, with fmt's text TOLD by the authors' own Lean function (tested against real Go, not proved from fmt's source: count such statements apart). THE CARD IS WHAT COUNTS. Prove the row's statement (the work); the ties are given (YtgmjafammdkgfaaDoorTie.lean); close each card by the builder's one call (the guide's Derived/Test/ToyasCard.lean, 'card_holds'). Laid BY PROGRAM, IN A SANDBOX (cutbox-door.mjs). By AI agents, Wed Nov 11 2026. No macro, syntax, notation, axiom, sorry.
-/
import Derived.Test.YtgmjafammdkgfaaDoorRows
import GoSem.ClaimSeven
namespace Go.Proofs.YtgmjafammdkgfaaDoor
namespace Rows

/-- THE TIED CARD OF 'winnowerlaw09.BitsetTells'. -/
def bitsetTellsCard : Claim7 := { stood := { row := bitsetTellsRow, standIns := [], harness := (true, "ef7417d7b880e7c5fc44ef945ef0858c6bc48f4994ab48cb73263b58f6dfaffe"), looks := false }, kinds := [], alts := [], laidByText := true, laidKinds := [.data], laidTests := true, laidLooks := .later }
def BitsetTellsCardSaid : Prop := Claim7.holds Tryd.pinned (.plain (OpenSpec.ofChange bitsetTellsSpec)) bitsetTellsCard

/-- THE TIED CARD OF 'winnowerlaw09.BitsetLaws'. -/
def bitsetLawsCard : Claim7 := { stood := { row := bitsetLawsRow, standIns := [], harness := (true, "ef7417d7b880e7c5fc44ef945ef0858c6bc48f4994ab48cb73263b58f6dfaffe"), looks := false }, kinds := [], alts := [], laidByText := true, laidKinds := [.data], laidTests := true, laidLooks := .later }
def BitsetLawsCardSaid : Prop := Claim7.holds Tryd.pinned (.plain (OpenSpec.ofChange bitsetLawsSpec)) bitsetLawsCard

/-- THE TIED CARD OF 'winnowerlaw09.BitsetStays'. -/
def bitsetStaysCard : Claim7 := { stood := { row := bitsetStaysRow, standIns := [], harness := (true, "ef7417d7b880e7c5fc44ef945ef0858c6bc48f4994ab48cb73263b58f6dfaffe"), looks := false }, kinds := [], alts := [], laidByText := true, laidKinds := [.data], laidTests := true, laidLooks := .later }
def BitsetStaysCardSaid : Prop := Claim7.holds Tryd.pinned (.plain (OpenSpec.ofChange bitsetStaysSpec)) bitsetStaysCard

/-- THE TIED CARD OF 'winnowerlaw09.BitsetOne'. -/
def bitsetOneCard : Claim7 := { stood := { row := bitsetOneRow, standIns := [], harness := (true, "ef7417d7b880e7c5fc44ef945ef0858c6bc48f4994ab48cb73263b58f6dfaffe"), looks := false }, kinds := [], alts := [], laidByText := true, laidKinds := [.data], laidTests := true, laidLooks := .later }
def BitsetOneCardSaid : Prop := Claim7.holds Tryd.pinned (.plain (OpenSpec.ofChange bitsetOneSpec)) bitsetOneCard

/-- THE SECOND FORM's CARD OF 'winnowerlaw09.BitsetTells'. -/
def bitsetTellsUptoCard : Claim7 := { stood := { row := bitsetTellsUptoRow, standIns := [], harness := (true, "ef7417d7b880e7c5fc44ef945ef0858c6bc48f4994ab48cb73263b58f6dfaffe"), looks := false }, kinds := [], alts := [], laidByText := true, laidKinds := [.data], laidTests := true, laidLooks := .later }
def BitsetTellsUptoCardSaid : Prop := Claim7.holds Tryd.pinned (.plain (OpenSpec.upto bitsetTellsSpec)) bitsetTellsUptoCard

/-- THE SECOND FORM's CARD OF 'winnowerlaw09.BitsetLaws'. -/
def bitsetLawsUptoCard : Claim7 := { stood := { row := bitsetLawsUptoRow, standIns := [], harness := (true, "ef7417d7b880e7c5fc44ef945ef0858c6bc48f4994ab48cb73263b58f6dfaffe"), looks := false }, kinds := [], alts := [], laidByText := true, laidKinds := [.data], laidTests := true, laidLooks := .later }
def BitsetLawsUptoCardSaid : Prop := Claim7.holds Tryd.pinned (.plain (OpenSpec.upto bitsetLawsSpec)) bitsetLawsUptoCard

/-- THE SECOND FORM's CARD OF 'winnowerlaw09.BitsetStays'. -/
def bitsetStaysUptoCard : Claim7 := { stood := { row := bitsetStaysUptoRow, standIns := [], harness := (true, "ef7417d7b880e7c5fc44ef945ef0858c6bc48f4994ab48cb73263b58f6dfaffe"), looks := false }, kinds := [], alts := [], laidByText := true, laidKinds := [.data], laidTests := true, laidLooks := .later }
def BitsetStaysUptoCardSaid : Prop := Claim7.holds Tryd.pinned (.plain (OpenSpec.upto bitsetStaysSpec)) bitsetStaysUptoCard

/-- THE SECOND FORM's CARD OF 'winnowerlaw09.BitsetOne'. -/
def bitsetOneUptoCard : Claim7 := { stood := { row := bitsetOneUptoRow, standIns := [], harness := (true, "ef7417d7b880e7c5fc44ef945ef0858c6bc48f4994ab48cb73263b58f6dfaffe"), looks := false }, kinds := [], alts := [], laidByText := true, laidKinds := [.data], laidTests := true, laidLooks := .later }
def BitsetOneUptoCardSaid : Prop := Claim7.holds Tryd.pinned (.plain (OpenSpec.upto bitsetOneSpec)) bitsetOneUptoCard
end Rows
end Go.Proofs.YtgmjafammdkgfaaDoor
