/-
  DERIVED. GIVEN WITH THE SEED: THE CARDS: each row of YtaoeipehpakngaaGreatDoorRows.lean that lists a variable, with what it lists TIED to the program's text (the seventh form; the later family's looks); each row that meets fmt, with fmt's text TOLD by the authors' own Lean function (tested against real Go, not proved from fmt's source: count such statements apart). THE CARD IS WHAT COUNTS. Prove the row's statement (the work); the ties are given (YtaoeipehpakngaaGreatDoorTie.lean); close each card by the builder's one call (the guide's Derived/Test/ToyasCard.lean, 'card_holds'). Laid BY PROGRAM, IN A SANDBOX (cutbox-door.mjs). By AI agents, Wed Nov 11 2026. No macro, syntax, notation, axiom, sorry.
-/
import Derived.Test.YtaoeipehpakngaaGreatDoorRows
import GoSem.ClaimSeven
namespace Go.Proofs.YtaoeipehpakngaaGreatDoor
namespace Rows

/-- THE TIED CARD OF 'winnowerlaw13.FileEncodes'. -/
def fileEncodesCard : Claim7 := { stood := { row := fileEncodesRow, standIns := [], harness := (true, "69daee403c7583ed3bf56c94a1964b4495ada03e7d7aba598124ff7914a994ae"), looks := true }, kinds := [], alts := [], laidByText := true, laidKinds := [.data, .data, .data, .sentinel, .sentinel], laidTests := true, laidLooks := .later }
def FileEncodesCardSaid : Prop := Claim7.holds Tryz.pinned (.plain (OpenSpec.ofChange fileEncodesSpec)) fileEncodesCard

/-- THE TIED CARD OF 'winnowerlaw13.FileBack'. -/
def fileBackCard : Claim7 := { stood := { row := fileBackRow, standIns := [], harness := (true, "69daee403c7583ed3bf56c94a1964b4495ada03e7d7aba598124ff7914a994ae"), looks := true }, kinds := [], alts := [], laidByText := true, laidKinds := [.data, .data, .data, .sentinel, .sentinel], laidTests := true, laidLooks := .later }
def FileBackCardSaid : Prop := Claim7.holds Tryz.pinned (.plain (OpenSpec.ofChange fileBackSpec)) fileBackCard

/-- THE TIED CARD OF 'winnowerlaw13.FileSize'. -/
def fileSizeCard : Claim7 := { stood := { row := fileSizeRow, standIns := [], harness := (true, "69daee403c7583ed3bf56c94a1964b4495ada03e7d7aba598124ff7914a994ae"), looks := true }, kinds := [], alts := [], laidByText := true, laidKinds := [.data, .data, .data, .sentinel, .sentinel], laidTests := true, laidLooks := .later }
def FileSizeCardSaid : Prop := Claim7.holds Tryz.pinned (.plain (OpenSpec.ofChange fileSizeSpec)) fileSizeCard

/-- THE SECOND FORM's CARD OF 'winnowerlaw13.FileEncodes'. -/
def fileEncodesUptoCard : Claim7 := { stood := { row := fileEncodesUptoRow, standIns := [], harness := (true, "69daee403c7583ed3bf56c94a1964b4495ada03e7d7aba598124ff7914a994ae"), looks := true }, kinds := [], alts := [], laidByText := true, laidKinds := [.data, .data, .data, .sentinel, .sentinel], laidTests := true, laidLooks := .later }
def FileEncodesUptoCardSaid : Prop := Claim7.holds Tryz.pinned (.plain (OpenSpec.upto fileEncodesSpec)) fileEncodesUptoCard

/-- THE SECOND FORM's CARD OF 'winnowerlaw13.FileBack'. -/
def fileBackUptoCard : Claim7 := { stood := { row := fileBackUptoRow, standIns := [], harness := (true, "69daee403c7583ed3bf56c94a1964b4495ada03e7d7aba598124ff7914a994ae"), looks := true }, kinds := [], alts := [], laidByText := true, laidKinds := [.data, .data, .data, .sentinel, .sentinel], laidTests := true, laidLooks := .later }
def FileBackUptoCardSaid : Prop := Claim7.holds Tryz.pinned (.plain (OpenSpec.upto fileBackSpec)) fileBackUptoCard

/-- THE SECOND FORM's CARD OF 'winnowerlaw13.FileSize'. -/
def fileSizeUptoCard : Claim7 := { stood := { row := fileSizeUptoRow, standIns := [], harness := (true, "69daee403c7583ed3bf56c94a1964b4495ada03e7d7aba598124ff7914a994ae"), looks := true }, kinds := [], alts := [], laidByText := true, laidKinds := [.data, .data, .data, .sentinel, .sentinel], laidTests := true, laidLooks := .later }
def FileSizeUptoCardSaid : Prop := Claim7.holds Tryz.pinned (.plain (OpenSpec.upto fileSizeSpec)) fileSizeUptoCard
end Rows
end Go.Proofs.YtaoeipehpakngaaGreatDoor
