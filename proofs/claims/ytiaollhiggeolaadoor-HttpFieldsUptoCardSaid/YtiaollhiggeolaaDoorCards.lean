/-
  DERIVED. GIVEN WITH THE SEED: THE CARDS: each row of YtiaollhiggeolaaDoorRows.lean that lists a variable, with what it lists TIED to the program's text (the seventh form; the later family's looks); each row that meets fmt, with fmt's text TOLD by the authors' own Lean function (tested against real Go, not proved from fmt's source: count such statements apart). THE CARD IS WHAT COUNTS. Prove the row's statement (the work); the ties are given (YtiaollhiggeolaaDoorTie.lean); close each card by the builder's one call (the guide's Derived/Test/ToyasCard.lean, 'card_holds'). Laid BY PROGRAM, IN A SANDBOX (cutbox-door.mjs). By AI agents, Wed Nov 11 2026. No macro, syntax, notation, axiom, sorry.
-/
import Derived.Test.YtiaollhiggeolaaDoorRows
import GoSem.ClaimSeven
namespace Go.Proofs.YtiaollhiggeolaaDoor
namespace Rows

/-- THE TIED CARD OF 'calepinlaw08.HttpWrites'. -/
def httpWritesCard : Claim7 := { stood := { row := httpWritesRow, standIns := [], harness := (true, "35d267eee83c231ad7c9ea1260fdcb88980c93e4041949fde04f0e50046da976"), looks := false }, kinds := [], alts := [], laidByText := true, laidKinds := [.data, .data, .data, .data, .pinned], laidTests := true, laidLooks := .later }
def HttpWritesCardSaid : Prop := Claim7.holds Tryd.pinned (.plain (OpenSpec.ofChange httpWritesSpec)) httpWritesCard

/-- THE TIED CARD OF 'calepinlaw08.HttpGets'. -/
def httpGetsCard : Claim7 := { stood := { row := httpGetsRow, standIns := [], harness := (true, "35d267eee83c231ad7c9ea1260fdcb88980c93e4041949fde04f0e50046da976"), looks := false }, kinds := [], alts := [], laidByText := true, laidKinds := [.data, .data, .data, .data, .pinned], laidTests := true, laidLooks := .later }
def HttpGetsCardSaid : Prop := Claim7.holds Tryd.pinned (.plain (OpenSpec.ofChange httpGetsSpec)) httpGetsCard

/-- THE TIED CARD OF 'calepinlaw08.HttpPieces'. -/
def httpPiecesCard : Claim7 := { stood := { row := httpPiecesRow, standIns := [], harness := (true, "35d267eee83c231ad7c9ea1260fdcb88980c93e4041949fde04f0e50046da976"), looks := false }, kinds := [], alts := [], laidByText := true, laidKinds := [.data, .data, .data, .data, .pinned], laidTests := true, laidLooks := .later }
def HttpPiecesCardSaid : Prop := Claim7.holds Tryd.pinned (.plain (OpenSpec.ofChange httpPiecesSpec)) httpPiecesCard

/-- THE TIED CARD OF 'calepinlaw08.HttpFields'. -/
def httpFieldsCard : Claim7 := { stood := { row := httpFieldsRow, standIns := [], harness := (true, "35d267eee83c231ad7c9ea1260fdcb88980c93e4041949fde04f0e50046da976"), looks := false }, kinds := [], alts := [], laidByText := true, laidKinds := [.data, .data, .data, .data, .pinned], laidTests := true, laidLooks := .later }
def HttpFieldsCardSaid : Prop := Claim7.holds Tryd.pinned (.plain (OpenSpec.ofChange httpFieldsSpec)) httpFieldsCard

/-- THE TIED CARD OF 'calepinlaw08.HttpShort'. -/
def httpShortCard : Claim7 := { stood := { row := httpShortRow, standIns := [], harness := (true, "35d267eee83c231ad7c9ea1260fdcb88980c93e4041949fde04f0e50046da976"), looks := false }, kinds := [], alts := [], laidByText := true, laidKinds := [.data, .data, .data, .data, .pinned], laidTests := true, laidLooks := .later }
def HttpShortCardSaid : Prop := Claim7.holds Tryd.pinned (.plain (OpenSpec.ofChange httpShortSpec)) httpShortCard

/-- THE SECOND FORM's CARD OF 'calepinlaw08.HttpWrites'. -/
def httpWritesUptoCard : Claim7 := { stood := { row := httpWritesUptoRow, standIns := [], harness := (true, "35d267eee83c231ad7c9ea1260fdcb88980c93e4041949fde04f0e50046da976"), looks := false }, kinds := [], alts := [], laidByText := true, laidKinds := [.data, .data, .data, .data, .pinned], laidTests := true, laidLooks := .later }
def HttpWritesUptoCardSaid : Prop := Claim7.holds Tryd.pinned (.plain (OpenSpec.upto httpWritesSpec)) httpWritesUptoCard

/-- THE SECOND FORM's CARD OF 'calepinlaw08.HttpGets'. -/
def httpGetsUptoCard : Claim7 := { stood := { row := httpGetsUptoRow, standIns := [], harness := (true, "35d267eee83c231ad7c9ea1260fdcb88980c93e4041949fde04f0e50046da976"), looks := false }, kinds := [], alts := [], laidByText := true, laidKinds := [.data, .data, .data, .data, .pinned], laidTests := true, laidLooks := .later }
def HttpGetsUptoCardSaid : Prop := Claim7.holds Tryd.pinned (.plain (OpenSpec.upto httpGetsSpec)) httpGetsUptoCard

/-- THE SECOND FORM's CARD OF 'calepinlaw08.HttpPieces'. -/
def httpPiecesUptoCard : Claim7 := { stood := { row := httpPiecesUptoRow, standIns := [], harness := (true, "35d267eee83c231ad7c9ea1260fdcb88980c93e4041949fde04f0e50046da976"), looks := false }, kinds := [], alts := [], laidByText := true, laidKinds := [.data, .data, .data, .data, .pinned], laidTests := true, laidLooks := .later }
def HttpPiecesUptoCardSaid : Prop := Claim7.holds Tryd.pinned (.plain (OpenSpec.upto httpPiecesSpec)) httpPiecesUptoCard

/-- THE SECOND FORM's CARD OF 'calepinlaw08.HttpFields'. -/
def httpFieldsUptoCard : Claim7 := { stood := { row := httpFieldsUptoRow, standIns := [], harness := (true, "35d267eee83c231ad7c9ea1260fdcb88980c93e4041949fde04f0e50046da976"), looks := false }, kinds := [], alts := [], laidByText := true, laidKinds := [.data, .data, .data, .data, .pinned], laidTests := true, laidLooks := .later }
def HttpFieldsUptoCardSaid : Prop := Claim7.holds Tryd.pinned (.plain (OpenSpec.upto httpFieldsSpec)) httpFieldsUptoCard

/-- THE SECOND FORM's CARD OF 'calepinlaw08.HttpShort'. -/
def httpShortUptoCard : Claim7 := { stood := { row := httpShortUptoRow, standIns := [], harness := (true, "35d267eee83c231ad7c9ea1260fdcb88980c93e4041949fde04f0e50046da976"), looks := false }, kinds := [], alts := [], laidByText := true, laidKinds := [.data, .data, .data, .data, .pinned], laidTests := true, laidLooks := .later }
def HttpShortUptoCardSaid : Prop := Claim7.holds Tryd.pinned (.plain (OpenSpec.upto httpShortSpec)) httpShortUptoCard
end Rows
end Go.Proofs.YtiaollhiggeolaaDoor
