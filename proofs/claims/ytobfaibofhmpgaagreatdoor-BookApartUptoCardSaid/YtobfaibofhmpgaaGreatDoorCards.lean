/-
  DERIVED. GIVEN WITH THE SEED: THE CARDS: each row of YtobfaibofhmpgaaGreatDoorRows.lean that lists a variable, with what it lists TIED to the program's text (the seventh form; the later family's looks); each row that meets fmt, with fmt's text TOLD by the authors' own Lean function (tested against real Go, not proved from fmt's source: count such statements apart). THE CARD IS WHAT COUNTS. Prove the row's statement (the work); the ties are given (YtobfaibofhmpgaaGreatDoorTie.lean); close each card by the builder's one call (the guide's Derived/Test/ToyasCard.lean, 'card_holds'). Laid BY PROGRAM, IN A SANDBOX (cutbox-door.mjs). By AI agents, Wed Nov 11 2026. No macro, syntax, notation, axiom, sorry.
-/
import Derived.Test.YtobfaibofhmpgaaGreatDoorRows
import GoSem.ClaimSeven
namespace Go.Proofs.YtobfaibofhmpgaaGreatDoor
namespace Rows

/-- THE TIED CARD OF 'calepinlaw12.BookSyncs'. -/
def bookSyncsCard : Claim7 := { stood := { row := bookSyncsRow, standIns := [], harness := (true, "a57b9c6c8195b4ff09a5bc6b572490d20d7851953758d0b9db000069e1eebb1f"), looks := false }, kinds := [], alts := [], laidByText := true, laidKinds := [.data, .data, .data, .data, .pinned], laidTests := true, laidLooks := .later }
def BookSyncsCardSaid : Prop := Claim7.holds Tryz.pinned (.plain (OpenSpec.ofChange bookSyncsSpec)) bookSyncsCard

/-- THE TIED CARD OF 'calepinlaw12.BookTags'. -/
def bookTagsCard : Claim7 := { stood := { row := bookTagsRow, standIns := [], harness := (true, "a57b9c6c8195b4ff09a5bc6b572490d20d7851953758d0b9db000069e1eebb1f"), looks := false }, kinds := [], alts := [], laidByText := true, laidKinds := [.data, .data, .data, .data, .pinned], laidTests := true, laidLooks := .later }
def BookTagsCardSaid : Prop := Claim7.holds Tryz.pinned (.plain (OpenSpec.ofChange bookTagsSpec)) bookTagsCard

/-- THE TIED CARD OF 'calepinlaw12.BookApart'. -/
def bookApartCard : Claim7 := { stood := { row := bookApartRow, standIns := [], harness := (true, "a57b9c6c8195b4ff09a5bc6b572490d20d7851953758d0b9db000069e1eebb1f"), looks := false }, kinds := [], alts := [], laidByText := true, laidKinds := [.data, .data, .data, .data, .pinned], laidTests := true, laidLooks := .later }
def BookApartCardSaid : Prop := Claim7.holds Tryz.pinned (.plain (OpenSpec.ofChange bookApartSpec)) bookApartCard

/-- THE TIED CARD OF 'calepinlaw12.BookRoom'. -/
def bookRoomCard : Claim7 := { stood := { row := bookRoomRow, standIns := [], harness := (true, "a57b9c6c8195b4ff09a5bc6b572490d20d7851953758d0b9db000069e1eebb1f"), looks := false }, kinds := [], alts := [], laidByText := true, laidKinds := [.data, .data, .data, .data, .pinned], laidTests := true, laidLooks := .later }
def BookRoomCardSaid : Prop := Claim7.holds Tryz.pinned (.plain (OpenSpec.ofChange bookRoomSpec)) bookRoomCard

/-- THE SECOND FORM's CARD OF 'calepinlaw12.BookSyncs'. -/
def bookSyncsUptoCard : Claim7 := { stood := { row := bookSyncsUptoRow, standIns := [], harness := (true, "a57b9c6c8195b4ff09a5bc6b572490d20d7851953758d0b9db000069e1eebb1f"), looks := false }, kinds := [], alts := [], laidByText := true, laidKinds := [.data, .data, .data, .data, .pinned], laidTests := true, laidLooks := .later }
def BookSyncsUptoCardSaid : Prop := Claim7.holds Tryz.pinned (.plain (OpenSpec.upto bookSyncsSpec)) bookSyncsUptoCard

/-- THE SECOND FORM's CARD OF 'calepinlaw12.BookTags'. -/
def bookTagsUptoCard : Claim7 := { stood := { row := bookTagsUptoRow, standIns := [], harness := (true, "a57b9c6c8195b4ff09a5bc6b572490d20d7851953758d0b9db000069e1eebb1f"), looks := false }, kinds := [], alts := [], laidByText := true, laidKinds := [.data, .data, .data, .data, .pinned], laidTests := true, laidLooks := .later }
def BookTagsUptoCardSaid : Prop := Claim7.holds Tryz.pinned (.plain (OpenSpec.upto bookTagsSpec)) bookTagsUptoCard

/-- THE SECOND FORM's CARD OF 'calepinlaw12.BookApart'. -/
def bookApartUptoCard : Claim7 := { stood := { row := bookApartUptoRow, standIns := [], harness := (true, "a57b9c6c8195b4ff09a5bc6b572490d20d7851953758d0b9db000069e1eebb1f"), looks := false }, kinds := [], alts := [], laidByText := true, laidKinds := [.data, .data, .data, .data, .pinned], laidTests := true, laidLooks := .later }
def BookApartUptoCardSaid : Prop := Claim7.holds Tryz.pinned (.plain (OpenSpec.upto bookApartSpec)) bookApartUptoCard

/-- THE SECOND FORM's CARD OF 'calepinlaw12.BookRoom'. -/
def bookRoomUptoCard : Claim7 := { stood := { row := bookRoomUptoRow, standIns := [], harness := (true, "a57b9c6c8195b4ff09a5bc6b572490d20d7851953758d0b9db000069e1eebb1f"), looks := false }, kinds := [], alts := [], laidByText := true, laidKinds := [.data, .data, .data, .data, .pinned], laidTests := true, laidLooks := .later }
def BookRoomUptoCardSaid : Prop := Claim7.holds Tryz.pinned (.plain (OpenSpec.upto bookRoomSpec)) bookRoomUptoCard
end Rows
end Go.Proofs.YtobfaibofhmpgaaGreatDoor
