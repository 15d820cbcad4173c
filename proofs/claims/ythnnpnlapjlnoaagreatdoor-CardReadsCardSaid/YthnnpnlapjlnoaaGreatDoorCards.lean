/-
  DERIVED. GIVEN WITH THE SEED: THE CARDS: each row of YthnnpnlapjlnoaaGreatDoorRows.lean that lists a variable, with what it lists TIED to the program's text (the seventh form; the later family's looks); each row that meets fmt, with fmt's text TOLD by the authors' own Lean function (tested against real Go, not proved from fmt's source: count such statements apart). THE CARD IS WHAT COUNTS. Prove the row's statement (the work); the ties are given (YthnnpnlapjlnoaaGreatDoorTie.lean); close each card by the builder's one call (the guide's Derived/Test/ToyasCard.lean, 'card_holds'). Laid BY PROGRAM, IN A SANDBOX (cutbox-door.mjs). By AI agents, Wed Nov 11 2026. No macro, syntax, notation, axiom, sorry.
-/
import Derived.Test.YthnnpnlapjlnoaaGreatDoorRows
import GoSem.ClaimSeven
namespace Go.Proofs.YthnnpnlapjlnoaaGreatDoor
namespace Rows

/-- THE TIED CARD OF 'calepinlaw05.CardReads'. -/
def cardReadsCard : Claim7 := { stood := { row := cardReadsRow, standIns := [], harness := (true, "cfe65542f8a0848d5d59b1a0dd36f05d411c3b9d74c5ec1faebe6328661e8e6d"), looks := false }, kinds := [], alts := [], laidByText := true, laidKinds := [.data, .pinned], laidTests := true, laidLooks := .later }
def CardReadsCardSaid : Prop := Claim7.holds Tryz.pinned (.plain (OpenSpec.ofChange cardReadsSpec)) cardReadsCard

/-- THE TIED CARD OF 'calepinlaw05.CardChecks'. -/
def cardChecksCard : Claim7 := { stood := { row := cardChecksRow, standIns := [], harness := (true, "cfe65542f8a0848d5d59b1a0dd36f05d411c3b9d74c5ec1faebe6328661e8e6d"), looks := false }, kinds := [], alts := [], laidByText := true, laidKinds := [.data, .pinned], laidTests := true, laidLooks := .later }
def CardChecksCardSaid : Prop := Claim7.holds Tryz.pinned (.plain (OpenSpec.ofChange cardChecksSpec)) cardChecksCard

/-- THE TIED CARD OF 'calepinlaw05.CardFinds'. -/
def cardFindsCard : Claim7 := { stood := { row := cardFindsRow, standIns := [], harness := (true, "cfe65542f8a0848d5d59b1a0dd36f05d411c3b9d74c5ec1faebe6328661e8e6d"), looks := false }, kinds := [], alts := [], laidByText := true, laidKinds := [.data, .pinned], laidTests := true, laidLooks := .later }
def CardFindsCardSaid : Prop := Claim7.holds Tryz.pinned (.plain (OpenSpec.ofChange cardFindsSpec)) cardFindsCard

/-- THE TIED CARD OF 'calepinlaw05.CardOrder'. -/
def cardOrderCard : Claim7 := { stood := { row := cardOrderRow, standIns := [], harness := (true, "cfe65542f8a0848d5d59b1a0dd36f05d411c3b9d74c5ec1faebe6328661e8e6d"), looks := false }, kinds := [], alts := [], laidByText := true, laidKinds := [.data, .pinned], laidTests := true, laidLooks := .later }
def CardOrderCardSaid : Prop := Claim7.holds Tryz.pinned (.plain (OpenSpec.ofChange cardOrderSpec)) cardOrderCard

/-- THE TIED CARD OF 'calepinlaw05.CardNeeds'. -/
def cardNeedsCard : Claim7 := { stood := { row := cardNeedsRow, standIns := [], harness := (true, "cfe65542f8a0848d5d59b1a0dd36f05d411c3b9d74c5ec1faebe6328661e8e6d"), looks := false }, kinds := [], alts := [], laidByText := true, laidKinds := [.data, .pinned], laidTests := true, laidLooks := .later }
def CardNeedsCardSaid : Prop := Claim7.holds Tryz.pinned (.plain (OpenSpec.ofChange cardNeedsSpec)) cardNeedsCard

/-- THE TIED CARD OF 'calepinlaw05.CardSame'. -/
def cardSameCard : Claim7 := { stood := { row := cardSameRow, standIns := [], harness := (true, "cfe65542f8a0848d5d59b1a0dd36f05d411c3b9d74c5ec1faebe6328661e8e6d"), looks := false }, kinds := [], alts := [], laidByText := true, laidKinds := [.data, .pinned], laidTests := true, laidLooks := .later }
def CardSameCardSaid : Prop := Claim7.holds Tryz.pinned (.plain (OpenSpec.ofChange cardSameSpec)) cardSameCard

/-- THE SECOND FORM's CARD OF 'calepinlaw05.CardReads'. -/
def cardReadsUptoCard : Claim7 := { stood := { row := cardReadsUptoRow, standIns := [], harness := (true, "cfe65542f8a0848d5d59b1a0dd36f05d411c3b9d74c5ec1faebe6328661e8e6d"), looks := false }, kinds := [], alts := [], laidByText := true, laidKinds := [.data, .pinned], laidTests := true, laidLooks := .later }
def CardReadsUptoCardSaid : Prop := Claim7.holds Tryz.pinned (.plain (OpenSpec.upto cardReadsSpec)) cardReadsUptoCard

/-- THE SECOND FORM's CARD OF 'calepinlaw05.CardChecks'. -/
def cardChecksUptoCard : Claim7 := { stood := { row := cardChecksUptoRow, standIns := [], harness := (true, "cfe65542f8a0848d5d59b1a0dd36f05d411c3b9d74c5ec1faebe6328661e8e6d"), looks := false }, kinds := [], alts := [], laidByText := true, laidKinds := [.data, .pinned], laidTests := true, laidLooks := .later }
def CardChecksUptoCardSaid : Prop := Claim7.holds Tryz.pinned (.plain (OpenSpec.upto cardChecksSpec)) cardChecksUptoCard

/-- THE SECOND FORM's CARD OF 'calepinlaw05.CardFinds'. -/
def cardFindsUptoCard : Claim7 := { stood := { row := cardFindsUptoRow, standIns := [], harness := (true, "cfe65542f8a0848d5d59b1a0dd36f05d411c3b9d74c5ec1faebe6328661e8e6d"), looks := false }, kinds := [], alts := [], laidByText := true, laidKinds := [.data, .pinned], laidTests := true, laidLooks := .later }
def CardFindsUptoCardSaid : Prop := Claim7.holds Tryz.pinned (.plain (OpenSpec.upto cardFindsSpec)) cardFindsUptoCard

/-- THE SECOND FORM's CARD OF 'calepinlaw05.CardOrder'. -/
def cardOrderUptoCard : Claim7 := { stood := { row := cardOrderUptoRow, standIns := [], harness := (true, "cfe65542f8a0848d5d59b1a0dd36f05d411c3b9d74c5ec1faebe6328661e8e6d"), looks := false }, kinds := [], alts := [], laidByText := true, laidKinds := [.data, .pinned], laidTests := true, laidLooks := .later }
def CardOrderUptoCardSaid : Prop := Claim7.holds Tryz.pinned (.plain (OpenSpec.upto cardOrderSpec)) cardOrderUptoCard

/-- THE SECOND FORM's CARD OF 'calepinlaw05.CardNeeds'. -/
def cardNeedsUptoCard : Claim7 := { stood := { row := cardNeedsUptoRow, standIns := [], harness := (true, "cfe65542f8a0848d5d59b1a0dd36f05d411c3b9d74c5ec1faebe6328661e8e6d"), looks := false }, kinds := [], alts := [], laidByText := true, laidKinds := [.data, .pinned], laidTests := true, laidLooks := .later }
def CardNeedsUptoCardSaid : Prop := Claim7.holds Tryz.pinned (.plain (OpenSpec.upto cardNeedsSpec)) cardNeedsUptoCard

/-- THE SECOND FORM's CARD OF 'calepinlaw05.CardSame'. -/
def cardSameUptoCard : Claim7 := { stood := { row := cardSameUptoRow, standIns := [], harness := (true, "cfe65542f8a0848d5d59b1a0dd36f05d411c3b9d74c5ec1faebe6328661e8e6d"), looks := false }, kinds := [], alts := [], laidByText := true, laidKinds := [.data, .pinned], laidTests := true, laidLooks := .later }
def CardSameUptoCardSaid : Prop := Claim7.holds Tryz.pinned (.plain (OpenSpec.upto cardSameSpec)) cardSameUptoCard
end Rows
end Go.Proofs.YthnnpnlapjlnoaaGreatDoor
