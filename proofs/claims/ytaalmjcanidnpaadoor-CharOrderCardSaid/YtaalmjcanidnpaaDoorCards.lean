/-
  DERIVED. GIVEN WITH THE SEED: THE CARDS: each row of YtaalmjcanidnpaaDoorRows.lean that lists a variable, with what it lists TIED to the program's text (the seventh form; the later family's looks); each row that meets fmt, with fmt's text TOLD by the authors' own Lean function (tested against real Go, not proved from fmt's source: count such statements apart). THE CARD IS WHAT COUNTS. Prove the row's statement (the work); the ties are given (YtaalmjcanidnpaaDoorTie.lean); close each card by the builder's one call (the guide's Derived/Test/ToyasCard.lean, 'card_holds'). Laid BY PROGRAM, IN A SANDBOX (cutbox-door.mjs). By AI agents, Wed Nov 11 2026. No macro, syntax, notation, axiom, sorry.
-/
import Derived.Test.YtaalmjcanidnpaaDoorRows
import GoSem.ClaimSeven
namespace Go.Proofs.YtaalmjcanidnpaaDoor
namespace Rows

/-- THE TIED CARD OF 'calepinlaw01.CharTexts'. -/
def charTextsCard : Claim7 := { stood := { row := charTextsRow, standIns := [], harness := (true, "b2daff9c18f5336857da6a7904c630a41eb05ff258af2122f46fc981c77498a8"), looks := false }, kinds := [], alts := [], laidByText := true, laidKinds := [.data, .pinned], laidTests := true, laidLooks := .later }
def CharTextsCardSaid : Prop := Claim7.holds Tryd.pinned (.plain (OpenSpec.ofChange charTextsSpec)) charTextsCard

/-- THE TIED CARD OF 'calepinlaw01.CharJoins'. -/
def charJoinsCard : Claim7 := { stood := { row := charJoinsRow, standIns := [], harness := (true, "b2daff9c18f5336857da6a7904c630a41eb05ff258af2122f46fc981c77498a8"), looks := false }, kinds := [], alts := [], laidByText := true, laidKinds := [.data, .pinned], laidTests := true, laidLooks := .later }
def CharJoinsCardSaid : Prop := Claim7.holds Tryd.pinned (.plain (OpenSpec.ofChange charJoinsSpec)) charJoinsCard

/-- THE TIED CARD OF 'calepinlaw01.CharNumbers'. -/
def charNumbersCard : Claim7 := { stood := { row := charNumbersRow, standIns := [], harness := (true, "b2daff9c18f5336857da6a7904c630a41eb05ff258af2122f46fc981c77498a8"), looks := false }, kinds := [], alts := [], laidByText := true, laidKinds := [.data, .data, .data, .data, .pinned], laidTests := true, laidLooks := .later }
def CharNumbersCardSaid : Prop := Claim7.holds Tryd.pinned (.plain (OpenSpec.ofChange charNumbersSpec)) charNumbersCard

/-- THE TIED CARD OF 'calepinlaw01.CharPieces'. -/
def charPiecesCard : Claim7 := { stood := { row := charPiecesRow, standIns := [], harness := (true, "b2daff9c18f5336857da6a7904c630a41eb05ff258af2122f46fc981c77498a8"), looks := false }, kinds := [], alts := [], laidByText := true, laidKinds := [.data, .pinned], laidTests := true, laidLooks := .later }
def CharPiecesCardSaid : Prop := Claim7.holds Tryd.pinned (.plain (OpenSpec.ofChange charPiecesSpec)) charPiecesCard

/-- THE TIED CARD OF 'calepinlaw01.CharOrder'. -/
def charOrderCard : Claim7 := { stood := { row := charOrderRow, standIns := [], harness := (true, "b2daff9c18f5336857da6a7904c630a41eb05ff258af2122f46fc981c77498a8"), looks := false }, kinds := [], alts := [], laidByText := true, laidKinds := [.data, .data, .data, .data, .pinned], laidTests := true, laidLooks := .later }
def CharOrderCardSaid : Prop := Claim7.holds Tryd.pinned (.plain (OpenSpec.ofChange charOrderSpec)) charOrderCard

/-- THE SECOND FORM's CARD OF 'calepinlaw01.CharTexts'. -/
def charTextsUptoCard : Claim7 := { stood := { row := charTextsUptoRow, standIns := [], harness := (true, "b2daff9c18f5336857da6a7904c630a41eb05ff258af2122f46fc981c77498a8"), looks := false }, kinds := [], alts := [], laidByText := true, laidKinds := [.data, .pinned], laidTests := true, laidLooks := .later }
def CharTextsUptoCardSaid : Prop := Claim7.holds Tryd.pinned (.plain (OpenSpec.upto charTextsSpec)) charTextsUptoCard

/-- THE SECOND FORM's CARD OF 'calepinlaw01.CharJoins'. -/
def charJoinsUptoCard : Claim7 := { stood := { row := charJoinsUptoRow, standIns := [], harness := (true, "b2daff9c18f5336857da6a7904c630a41eb05ff258af2122f46fc981c77498a8"), looks := false }, kinds := [], alts := [], laidByText := true, laidKinds := [.data, .pinned], laidTests := true, laidLooks := .later }
def CharJoinsUptoCardSaid : Prop := Claim7.holds Tryd.pinned (.plain (OpenSpec.upto charJoinsSpec)) charJoinsUptoCard

/-- THE SECOND FORM's CARD OF 'calepinlaw01.CharNumbers'. -/
def charNumbersUptoCard : Claim7 := { stood := { row := charNumbersUptoRow, standIns := [], harness := (true, "b2daff9c18f5336857da6a7904c630a41eb05ff258af2122f46fc981c77498a8"), looks := false }, kinds := [], alts := [], laidByText := true, laidKinds := [.data, .data, .data, .data, .pinned], laidTests := true, laidLooks := .later }
def CharNumbersUptoCardSaid : Prop := Claim7.holds Tryd.pinned (.plain (OpenSpec.upto charNumbersSpec)) charNumbersUptoCard

/-- THE SECOND FORM's CARD OF 'calepinlaw01.CharPieces'. -/
def charPiecesUptoCard : Claim7 := { stood := { row := charPiecesUptoRow, standIns := [], harness := (true, "b2daff9c18f5336857da6a7904c630a41eb05ff258af2122f46fc981c77498a8"), looks := false }, kinds := [], alts := [], laidByText := true, laidKinds := [.data, .pinned], laidTests := true, laidLooks := .later }
def CharPiecesUptoCardSaid : Prop := Claim7.holds Tryd.pinned (.plain (OpenSpec.upto charPiecesSpec)) charPiecesUptoCard

/-- THE SECOND FORM's CARD OF 'calepinlaw01.CharOrder'. -/
def charOrderUptoCard : Claim7 := { stood := { row := charOrderUptoRow, standIns := [], harness := (true, "b2daff9c18f5336857da6a7904c630a41eb05ff258af2122f46fc981c77498a8"), looks := false }, kinds := [], alts := [], laidByText := true, laidKinds := [.data, .data, .data, .data, .pinned], laidTests := true, laidLooks := .later }
def CharOrderUptoCardSaid : Prop := Claim7.holds Tryd.pinned (.plain (OpenSpec.upto charOrderSpec)) charOrderUptoCard
end Rows
end Go.Proofs.YtaalmjcanidnpaaDoor
