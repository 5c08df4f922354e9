/-
  DERIVED. GIVEN WITH THE SEED: THE CARDS: each row of YtnhgijlhnamolaaGreatDoorRows.lean that lists a variable, with what it lists TIED to the program's text (the seventh form; the later family's looks); each row that meets fmt, with fmt's text TOLD by the authors' own Lean function (tested against real Go, not proved from fmt's source: count such statements apart). THE CARD IS WHAT COUNTS. Prove the row's statement (the work); the ties are given (YtnhgijlhnamolaaGreatDoorTie.lean); close each card by the builder's one call (the guide's Derived/Test/ToyasCard.lean, 'card_holds'). Laid BY PROGRAM, IN A SANDBOX (cutbox-door.mjs). By AI agents, Wed Nov 11 2026. No macro, syntax, notation, axiom, sorry.
-/
import Derived.Test.YtnhgijlhnamolaaGreatDoorRows
import GoSem.ClaimSeven
namespace Go.Proofs.YtnhgijlhnamolaaGreatDoor
namespace Rows

/-- THE TIED CARD OF 'winnowerlaw10.ColumnTells'. -/
def columnTellsCard : Claim7 := { stood := { row := columnTellsRow, standIns := [], harness := (true, "5b18168833950c241302bc546a7e2af2b159f0980728d2b386c984bcfff6535f"), looks := false }, kinds := [], alts := [], laidByText := true, laidKinds := [.data], laidTests := true, laidLooks := .later }
def ColumnTellsCardSaid : Prop := Claim7.holds Tryz.pinned (.plain (OpenSpec.ofChange columnTellsSpec)) columnTellsCard

/-- THE SECOND FORM's CARD OF 'winnowerlaw10.ColumnTells'. -/
def columnTellsUptoCard : Claim7 := { stood := { row := columnTellsUptoRow, standIns := [], harness := (true, "5b18168833950c241302bc546a7e2af2b159f0980728d2b386c984bcfff6535f"), looks := false }, kinds := [], alts := [], laidByText := true, laidKinds := [.data], laidTests := true, laidLooks := .later }
def ColumnTellsUptoCardSaid : Prop := Claim7.holds Tryz.pinned (.plain (OpenSpec.upto columnTellsSpec)) columnTellsUptoCard
end Rows
end Go.Proofs.YtnhgijlhnamolaaGreatDoor
