/-
  DERIVED. GIVEN WITH THE SEED: THE CARDS: each row of YtnhgijlhnamolaaDoorRows.lean that lists a variable, with what it lists TIED to the program's text (the seventh form; the later family's looks); each row that meets fmt, with fmt's text TOLD by the authors' own Lean function (tested against real Go, not proved from fmt's source: count such statements apart). THE CARD IS WHAT COUNTS. Prove the row's statement (the work); the ties are given (YtnhgijlhnamolaaDoorTie.lean); close each card by the builder's one call (the guide's Derived/Test/ToyasCard.lean, 'card_holds'). Laid BY PROGRAM, IN A SANDBOX (cutbox-door.mjs). By AI agents, Wed Nov 11 2026. No macro, syntax, notation, axiom, sorry.
-/
import Derived.Test.YtnhgijlhnamolaaDoorRows
import GoSem.ClaimSeven
namespace Go.Proofs.YtnhgijlhnamolaaDoor
namespace Rows

/-- THE TIED CARD OF 'winnowerlaw10.ColumnBuilds'. -/
def columnBuildsCard : Claim7 := { stood := { row := columnBuildsRow, standIns := [], harness := (true, "331e5fa01e32614a0b8a4e5945dcaab571db1e64a7953df9128bdfa44100d5e4"), looks := false }, kinds := [], alts := [], laidByText := true, laidKinds := [.data], laidTests := true, laidLooks := .later }
def ColumnBuildsCardSaid : Prop := Claim7.holds Tryd.pinned (.plain (OpenSpec.ofChange columnBuildsSpec)) columnBuildsCard

/-- THE TIED CARD OF 'winnowerlaw10.ColumnBack'. -/
def columnBackCard : Claim7 := { stood := { row := columnBackRow, standIns := [], harness := (true, "331e5fa01e32614a0b8a4e5945dcaab571db1e64a7953df9128bdfa44100d5e4"), looks := false }, kinds := [], alts := [], laidByText := true, laidKinds := [.data], laidTests := true, laidLooks := .later }
def ColumnBackCardSaid : Prop := Claim7.holds Tryd.pinned (.plain (OpenSpec.ofChange columnBackSpec)) columnBackCard

/-- THE TIED CARD OF 'winnowerlaw10.ColumnParts'. -/
def columnPartsCard : Claim7 := { stood := { row := columnPartsRow, standIns := [], harness := (true, "331e5fa01e32614a0b8a4e5945dcaab571db1e64a7953df9128bdfa44100d5e4"), looks := false }, kinds := [], alts := [], laidByText := true, laidKinds := [.data], laidTests := true, laidLooks := .later }
def ColumnPartsCardSaid : Prop := Claim7.holds Tryd.pinned (.plain (OpenSpec.ofChange columnPartsSpec)) columnPartsCard

/-- THE TIED CARD OF 'winnowerlaw10.ColumnDict'. -/
def columnDictCard : Claim7 := { stood := { row := columnDictRow, standIns := [], harness := (true, "331e5fa01e32614a0b8a4e5945dcaab571db1e64a7953df9128bdfa44100d5e4"), looks := false }, kinds := [], alts := [], laidByText := true, laidKinds := [.data], laidTests := true, laidLooks := .later }
def ColumnDictCardSaid : Prop := Claim7.holds Tryd.pinned (.plain (OpenSpec.ofChange columnDictSpec)) columnDictCard

/-- THE SECOND FORM's CARD OF 'winnowerlaw10.ColumnBuilds'. -/
def columnBuildsUptoCard : Claim7 := { stood := { row := columnBuildsUptoRow, standIns := [], harness := (true, "331e5fa01e32614a0b8a4e5945dcaab571db1e64a7953df9128bdfa44100d5e4"), looks := false }, kinds := [], alts := [], laidByText := true, laidKinds := [.data], laidTests := true, laidLooks := .later }
def ColumnBuildsUptoCardSaid : Prop := Claim7.holds Tryd.pinned (.plain (OpenSpec.upto columnBuildsSpec)) columnBuildsUptoCard

/-- THE SECOND FORM's CARD OF 'winnowerlaw10.ColumnBack'. -/
def columnBackUptoCard : Claim7 := { stood := { row := columnBackUptoRow, standIns := [], harness := (true, "331e5fa01e32614a0b8a4e5945dcaab571db1e64a7953df9128bdfa44100d5e4"), looks := false }, kinds := [], alts := [], laidByText := true, laidKinds := [.data], laidTests := true, laidLooks := .later }
def ColumnBackUptoCardSaid : Prop := Claim7.holds Tryd.pinned (.plain (OpenSpec.upto columnBackSpec)) columnBackUptoCard

/-- THE SECOND FORM's CARD OF 'winnowerlaw10.ColumnParts'. -/
def columnPartsUptoCard : Claim7 := { stood := { row := columnPartsUptoRow, standIns := [], harness := (true, "331e5fa01e32614a0b8a4e5945dcaab571db1e64a7953df9128bdfa44100d5e4"), looks := false }, kinds := [], alts := [], laidByText := true, laidKinds := [.data], laidTests := true, laidLooks := .later }
def ColumnPartsUptoCardSaid : Prop := Claim7.holds Tryd.pinned (.plain (OpenSpec.upto columnPartsSpec)) columnPartsUptoCard

/-- THE SECOND FORM's CARD OF 'winnowerlaw10.ColumnDict'. -/
def columnDictUptoCard : Claim7 := { stood := { row := columnDictUptoRow, standIns := [], harness := (true, "331e5fa01e32614a0b8a4e5945dcaab571db1e64a7953df9128bdfa44100d5e4"), looks := false }, kinds := [], alts := [], laidByText := true, laidKinds := [.data], laidTests := true, laidLooks := .later }
def ColumnDictUptoCardSaid : Prop := Claim7.holds Tryd.pinned (.plain (OpenSpec.upto columnDictSpec)) columnDictUptoCard
end Rows
end Go.Proofs.YtnhgijlhnamolaaDoor
