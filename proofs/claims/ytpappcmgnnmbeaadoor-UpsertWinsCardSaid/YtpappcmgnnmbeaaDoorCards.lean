/-
  DERIVED. GIVEN WITH THE SEED: THE CARDS: each row of YtpappcmgnnmbeaaDoorRows.lean that lists a variable, with what it lists TIED to the program's text (the seventh form; the later family's looks); each row that meets fmt, with fmt's text TOLD by the authors' own Lean function (tested against real Go, not proved from fmt's source: count such statements apart). THE CARD IS WHAT COUNTS. Prove the row's statement (the work); the ties are given (YtpappcmgnnmbeaaDoorTie.lean); close each card by the builder's one call (the guide's Derived/Test/ToyasCard.lean, 'card_holds'). Laid BY PROGRAM, IN A SANDBOX (cutbox-door.mjs). By AI agents, Wed Nov 11 2026. No macro, syntax, notation, axiom, sorry.
-/
import Derived.Test.YtpappcmgnnmbeaaDoorRows
import GoSem.ClaimSeven
namespace Go.Proofs.YtpappcmgnnmbeaaDoor
namespace Rows

/-- THE TIED CARD OF 'winnowerlaw15.UpsertDoes'. -/
def upsertDoesCard : Claim7 := { stood := { row := upsertDoesRow, standIns := [], harness := (true, "76e5d29971ed2c345610cab26af9dcef3014a080d102ab2398cf233cf6d5bccc"), looks := false }, kinds := [], alts := [], laidByText := true, laidKinds := [.data], laidTests := true, laidLooks := .later }
def UpsertDoesCardSaid : Prop := Claim7.holds Tryd.pinned (.plain (OpenSpec.ofChange upsertDoesSpec)) upsertDoesCard

/-- THE TIED CARD OF 'winnowerlaw15.UpsertOrder'. -/
def upsertOrderCard : Claim7 := { stood := { row := upsertOrderRow, standIns := [], harness := (true, "76e5d29971ed2c345610cab26af9dcef3014a080d102ab2398cf233cf6d5bccc"), looks := false }, kinds := [], alts := [], laidByText := true, laidKinds := [.data], laidTests := true, laidLooks := .later }
def UpsertOrderCardSaid : Prop := Claim7.holds Tryd.pinned (.plain (OpenSpec.ofChange upsertOrderSpec)) upsertOrderCard

/-- THE TIED CARD OF 'winnowerlaw15.UpsertOnce'. -/
def upsertOnceCard : Claim7 := { stood := { row := upsertOnceRow, standIns := [], harness := (true, "76e5d29971ed2c345610cab26af9dcef3014a080d102ab2398cf233cf6d5bccc"), looks := false }, kinds := [], alts := [], laidByText := true, laidKinds := [.data], laidTests := true, laidLooks := .later }
def UpsertOnceCardSaid : Prop := Claim7.holds Tryd.pinned (.plain (OpenSpec.ofChange upsertOnceSpec)) upsertOnceCard

/-- THE TIED CARD OF 'winnowerlaw15.UpsertSeals'. -/
def upsertSealsCard : Claim7 := { stood := { row := upsertSealsRow, standIns := [], harness := (true, "76e5d29971ed2c345610cab26af9dcef3014a080d102ab2398cf233cf6d5bccc"), looks := false }, kinds := [], alts := [], laidByText := true, laidKinds := [.data], laidTests := true, laidLooks := .later }
def UpsertSealsCardSaid : Prop := Claim7.holds Tryd.pinned (.plain (OpenSpec.ofChange upsertSealsSpec)) upsertSealsCard

/-- THE TIED CARD OF 'winnowerlaw15.UpsertNone'. -/
def upsertNoneCard : Claim7 := { stood := { row := upsertNoneRow, standIns := [], harness := (true, "76e5d29971ed2c345610cab26af9dcef3014a080d102ab2398cf233cf6d5bccc"), looks := false }, kinds := [], alts := [], laidByText := true, laidKinds := [.data], laidTests := true, laidLooks := .later }
def UpsertNoneCardSaid : Prop := Claim7.holds Tryd.pinned (.plain (OpenSpec.ofChange upsertNoneSpec)) upsertNoneCard

/-- THE TIED CARD OF 'winnowerlaw15.UpsertWins'. -/
def upsertWinsCard : Claim7 := { stood := { row := upsertWinsRow, standIns := [], harness := (true, "76e5d29971ed2c345610cab26af9dcef3014a080d102ab2398cf233cf6d5bccc"), looks := false }, kinds := [], alts := [], laidByText := true, laidKinds := [.data], laidTests := true, laidLooks := .later }
def UpsertWinsCardSaid : Prop := Claim7.holds Tryd.pinned (.plain (OpenSpec.ofChange upsertWinsSpec)) upsertWinsCard

/-- THE TIED CARD OF 'winnowerlaw15.UpsertKeys'. -/
def upsertKeysCard : Claim7 := { stood := { row := upsertKeysRow, standIns := [], harness := (true, "76e5d29971ed2c345610cab26af9dcef3014a080d102ab2398cf233cf6d5bccc"), looks := false }, kinds := [], alts := [], laidByText := true, laidKinds := [.data], laidTests := true, laidLooks := .later }
def UpsertKeysCardSaid : Prop := Claim7.holds Tryd.pinned (.plain (OpenSpec.ofChange upsertKeysSpec)) upsertKeysCard

/-- THE SECOND FORM's CARD OF 'winnowerlaw15.UpsertDoes'. -/
def upsertDoesUptoCard : Claim7 := { stood := { row := upsertDoesUptoRow, standIns := [], harness := (true, "76e5d29971ed2c345610cab26af9dcef3014a080d102ab2398cf233cf6d5bccc"), looks := false }, kinds := [], alts := [], laidByText := true, laidKinds := [.data], laidTests := true, laidLooks := .later }
def UpsertDoesUptoCardSaid : Prop := Claim7.holds Tryd.pinned (.plain (OpenSpec.upto upsertDoesSpec)) upsertDoesUptoCard

/-- THE SECOND FORM's CARD OF 'winnowerlaw15.UpsertOrder'. -/
def upsertOrderUptoCard : Claim7 := { stood := { row := upsertOrderUptoRow, standIns := [], harness := (true, "76e5d29971ed2c345610cab26af9dcef3014a080d102ab2398cf233cf6d5bccc"), looks := false }, kinds := [], alts := [], laidByText := true, laidKinds := [.data], laidTests := true, laidLooks := .later }
def UpsertOrderUptoCardSaid : Prop := Claim7.holds Tryd.pinned (.plain (OpenSpec.upto upsertOrderSpec)) upsertOrderUptoCard

/-- THE SECOND FORM's CARD OF 'winnowerlaw15.UpsertOnce'. -/
def upsertOnceUptoCard : Claim7 := { stood := { row := upsertOnceUptoRow, standIns := [], harness := (true, "76e5d29971ed2c345610cab26af9dcef3014a080d102ab2398cf233cf6d5bccc"), looks := false }, kinds := [], alts := [], laidByText := true, laidKinds := [.data], laidTests := true, laidLooks := .later }
def UpsertOnceUptoCardSaid : Prop := Claim7.holds Tryd.pinned (.plain (OpenSpec.upto upsertOnceSpec)) upsertOnceUptoCard

/-- THE SECOND FORM's CARD OF 'winnowerlaw15.UpsertSeals'. -/
def upsertSealsUptoCard : Claim7 := { stood := { row := upsertSealsUptoRow, standIns := [], harness := (true, "76e5d29971ed2c345610cab26af9dcef3014a080d102ab2398cf233cf6d5bccc"), looks := false }, kinds := [], alts := [], laidByText := true, laidKinds := [.data], laidTests := true, laidLooks := .later }
def UpsertSealsUptoCardSaid : Prop := Claim7.holds Tryd.pinned (.plain (OpenSpec.upto upsertSealsSpec)) upsertSealsUptoCard

/-- THE SECOND FORM's CARD OF 'winnowerlaw15.UpsertNone'. -/
def upsertNoneUptoCard : Claim7 := { stood := { row := upsertNoneUptoRow, standIns := [], harness := (true, "76e5d29971ed2c345610cab26af9dcef3014a080d102ab2398cf233cf6d5bccc"), looks := false }, kinds := [], alts := [], laidByText := true, laidKinds := [.data], laidTests := true, laidLooks := .later }
def UpsertNoneUptoCardSaid : Prop := Claim7.holds Tryd.pinned (.plain (OpenSpec.upto upsertNoneSpec)) upsertNoneUptoCard

/-- THE SECOND FORM's CARD OF 'winnowerlaw15.UpsertWins'. -/
def upsertWinsUptoCard : Claim7 := { stood := { row := upsertWinsUptoRow, standIns := [], harness := (true, "76e5d29971ed2c345610cab26af9dcef3014a080d102ab2398cf233cf6d5bccc"), looks := false }, kinds := [], alts := [], laidByText := true, laidKinds := [.data], laidTests := true, laidLooks := .later }
def UpsertWinsUptoCardSaid : Prop := Claim7.holds Tryd.pinned (.plain (OpenSpec.upto upsertWinsSpec)) upsertWinsUptoCard

/-- THE SECOND FORM's CARD OF 'winnowerlaw15.UpsertKeys'. -/
def upsertKeysUptoCard : Claim7 := { stood := { row := upsertKeysUptoRow, standIns := [], harness := (true, "76e5d29971ed2c345610cab26af9dcef3014a080d102ab2398cf233cf6d5bccc"), looks := false }, kinds := [], alts := [], laidByText := true, laidKinds := [.data], laidTests := true, laidLooks := .later }
def UpsertKeysUptoCardSaid : Prop := Claim7.holds Tryd.pinned (.plain (OpenSpec.upto upsertKeysSpec)) upsertKeysUptoCard
end Rows
end Go.Proofs.YtpappcmgnnmbeaaDoor
