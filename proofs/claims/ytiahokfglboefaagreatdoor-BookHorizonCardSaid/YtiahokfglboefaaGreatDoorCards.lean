/-
  DERIVED. GIVEN WITH THE SEED: THE CARDS: each row of YtiahokfglboefaaGreatDoorRows.lean that lists a variable, with what it lists TIED to the program's text (the seventh form; the later family's looks); each row that meets fmt, with fmt's text TOLD by the authors' own Lean function (tested against real Go, not proved from fmt's source: count such statements apart). THE CARD IS WHAT COUNTS. Prove the row's statement (the work); the ties are given (YtiahokfglboefaaGreatDoorTie.lean); close each card by the builder's one call (the guide's Derived/Test/ToyasCard.lean, 'card_holds'). Laid BY PROGRAM, IN A SANDBOX (cutbox-door.mjs). By AI agents, Wed Nov 11 2026. No macro, syntax, notation, axiom, sorry.
-/
import Derived.Test.YtiahokfglboefaaGreatDoorRows
import GoSem.ClaimSeven
namespace Go.Proofs.YtiahokfglboefaaGreatDoor
namespace Rows

/-- THE TIED CARD OF 'calepinlaw12.BookPlays'. -/
def bookPlaysCard : Claim7 := { stood := { row := bookPlaysRow, standIns := [], harness := (true, "4dd9b64022c26c449d7f9958ace32b87a5665f5278639f3f1493687d26cfbf40"), looks := true }, kinds := [], alts := [], laidByText := true, laidKinds := [.data, .data, .data, .data, .pinned], laidTests := true, laidLooks := .later }
def BookPlaysCardSaid : Prop := Claim7.holds Tryz.pinned (.plain (OpenSpec.ofChange bookPlaysSpec)) bookPlaysCard

/-- THE TIED CARD OF 'calepinlaw12.BookLoads'. -/
def bookLoadsCard : Claim7 := { stood := { row := bookLoadsRow, standIns := [], harness := (true, "4dd9b64022c26c449d7f9958ace32b87a5665f5278639f3f1493687d26cfbf40"), looks := true }, kinds := [], alts := [], laidByText := true, laidKinds := [.data, .data, .data, .data, .pinned], laidTests := true, laidLooks := .later }
def BookLoadsCardSaid : Prop := Claim7.holds Tryz.pinned (.plain (OpenSpec.ofChange bookLoadsSpec)) bookLoadsCard

/-- THE TIED CARD OF 'calepinlaw12.BookSyncs'. -/
def bookSyncsCard : Claim7 := { stood := { row := bookSyncsRow, standIns := [], harness := (true, "4dd9b64022c26c449d7f9958ace32b87a5665f5278639f3f1493687d26cfbf40"), looks := true }, kinds := [], alts := [], laidByText := true, laidKinds := [.data, .data, .data, .data, .pinned], laidTests := true, laidLooks := .later }
def BookSyncsCardSaid : Prop := Claim7.holds Tryz.pinned (.plain (OpenSpec.ofChange bookSyncsSpec)) bookSyncsCard

/-- THE TIED CARD OF 'calepinlaw12.BookTags'. -/
def bookTagsCard : Claim7 := { stood := { row := bookTagsRow, standIns := [], harness := (true, "4dd9b64022c26c449d7f9958ace32b87a5665f5278639f3f1493687d26cfbf40"), looks := true }, kinds := [], alts := [], laidByText := true, laidKinds := [.data, .data, .data, .data, .pinned], laidTests := true, laidLooks := .later }
def BookTagsCardSaid : Prop := Claim7.holds Tryz.pinned (.plain (OpenSpec.ofChange bookTagsSpec)) bookTagsCard

/-- THE TIED CARD OF 'calepinlaw12.BookApart'. -/
def bookApartCard : Claim7 := { stood := { row := bookApartRow, standIns := [], harness := (true, "4dd9b64022c26c449d7f9958ace32b87a5665f5278639f3f1493687d26cfbf40"), looks := true }, kinds := [], alts := [], laidByText := true, laidKinds := [.data, .data, .data, .data, .pinned], laidTests := true, laidLooks := .later }
def BookApartCardSaid : Prop := Claim7.holds Tryz.pinned (.plain (OpenSpec.ofChange bookApartSpec)) bookApartCard

/-- THE TIED CARD OF 'calepinlaw12.BookRoom'. -/
def bookRoomCard : Claim7 := { stood := { row := bookRoomRow, standIns := [], harness := (true, "4dd9b64022c26c449d7f9958ace32b87a5665f5278639f3f1493687d26cfbf40"), looks := true }, kinds := [], alts := [], laidByText := true, laidKinds := [.data, .data, .data, .data, .pinned], laidTests := true, laidLooks := .later }
def BookRoomCardSaid : Prop := Claim7.holds Tryz.pinned (.plain (OpenSpec.ofChange bookRoomSpec)) bookRoomCard

/-- THE TIED CARD OF 'calepinlaw12.BookHorizon'. -/
def bookHorizonCard : Claim7 := { stood := { row := bookHorizonRow, standIns := [], harness := (true, "4dd9b64022c26c449d7f9958ace32b87a5665f5278639f3f1493687d26cfbf40"), looks := true }, kinds := [], alts := [], laidByText := true, laidKinds := [.data, .data, .data, .data, .pinned], laidTests := true, laidLooks := .later }
def BookHorizonCardSaid : Prop := Claim7.holds Tryz.pinned (.plain (OpenSpec.ofChange bookHorizonSpec)) bookHorizonCard

/-- THE SECOND FORM's CARD OF 'calepinlaw12.BookPlays'. -/
def bookPlaysUptoCard : Claim7 := { stood := { row := bookPlaysUptoRow, standIns := [], harness := (true, "4dd9b64022c26c449d7f9958ace32b87a5665f5278639f3f1493687d26cfbf40"), looks := true }, kinds := [], alts := [], laidByText := true, laidKinds := [.data, .data, .data, .data, .pinned], laidTests := true, laidLooks := .later }
def BookPlaysUptoCardSaid : Prop := Claim7.holds Tryz.pinned (.plain (OpenSpec.upto bookPlaysSpec)) bookPlaysUptoCard

/-- THE SECOND FORM's CARD OF 'calepinlaw12.BookLoads'. -/
def bookLoadsUptoCard : Claim7 := { stood := { row := bookLoadsUptoRow, standIns := [], harness := (true, "4dd9b64022c26c449d7f9958ace32b87a5665f5278639f3f1493687d26cfbf40"), looks := true }, kinds := [], alts := [], laidByText := true, laidKinds := [.data, .data, .data, .data, .pinned], laidTests := true, laidLooks := .later }
def BookLoadsUptoCardSaid : Prop := Claim7.holds Tryz.pinned (.plain (OpenSpec.upto bookLoadsSpec)) bookLoadsUptoCard

/-- THE SECOND FORM's CARD OF 'calepinlaw12.BookSyncs'. -/
def bookSyncsUptoCard : Claim7 := { stood := { row := bookSyncsUptoRow, standIns := [], harness := (true, "4dd9b64022c26c449d7f9958ace32b87a5665f5278639f3f1493687d26cfbf40"), looks := true }, kinds := [], alts := [], laidByText := true, laidKinds := [.data, .data, .data, .data, .pinned], laidTests := true, laidLooks := .later }
def BookSyncsUptoCardSaid : Prop := Claim7.holds Tryz.pinned (.plain (OpenSpec.upto bookSyncsSpec)) bookSyncsUptoCard

/-- THE SECOND FORM's CARD OF 'calepinlaw12.BookTags'. -/
def bookTagsUptoCard : Claim7 := { stood := { row := bookTagsUptoRow, standIns := [], harness := (true, "4dd9b64022c26c449d7f9958ace32b87a5665f5278639f3f1493687d26cfbf40"), looks := true }, kinds := [], alts := [], laidByText := true, laidKinds := [.data, .data, .data, .data, .pinned], laidTests := true, laidLooks := .later }
def BookTagsUptoCardSaid : Prop := Claim7.holds Tryz.pinned (.plain (OpenSpec.upto bookTagsSpec)) bookTagsUptoCard

/-- THE SECOND FORM's CARD OF 'calepinlaw12.BookApart'. -/
def bookApartUptoCard : Claim7 := { stood := { row := bookApartUptoRow, standIns := [], harness := (true, "4dd9b64022c26c449d7f9958ace32b87a5665f5278639f3f1493687d26cfbf40"), looks := true }, kinds := [], alts := [], laidByText := true, laidKinds := [.data, .data, .data, .data, .pinned], laidTests := true, laidLooks := .later }
def BookApartUptoCardSaid : Prop := Claim7.holds Tryz.pinned (.plain (OpenSpec.upto bookApartSpec)) bookApartUptoCard

/-- THE SECOND FORM's CARD OF 'calepinlaw12.BookRoom'. -/
def bookRoomUptoCard : Claim7 := { stood := { row := bookRoomUptoRow, standIns := [], harness := (true, "4dd9b64022c26c449d7f9958ace32b87a5665f5278639f3f1493687d26cfbf40"), looks := true }, kinds := [], alts := [], laidByText := true, laidKinds := [.data, .data, .data, .data, .pinned], laidTests := true, laidLooks := .later }
def BookRoomUptoCardSaid : Prop := Claim7.holds Tryz.pinned (.plain (OpenSpec.upto bookRoomSpec)) bookRoomUptoCard

/-- THE SECOND FORM's CARD OF 'calepinlaw12.BookHorizon'. -/
def bookHorizonUptoCard : Claim7 := { stood := { row := bookHorizonUptoRow, standIns := [], harness := (true, "4dd9b64022c26c449d7f9958ace32b87a5665f5278639f3f1493687d26cfbf40"), looks := true }, kinds := [], alts := [], laidByText := true, laidKinds := [.data, .data, .data, .data, .pinned], laidTests := true, laidLooks := .later }
def BookHorizonUptoCardSaid : Prop := Claim7.holds Tryz.pinned (.plain (OpenSpec.upto bookHorizonSpec)) bookHorizonUptoCard
end Rows
end Go.Proofs.YtiahokfglboefaaGreatDoor
