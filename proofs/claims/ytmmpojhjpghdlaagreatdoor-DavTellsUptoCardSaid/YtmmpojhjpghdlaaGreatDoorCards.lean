/-
  DERIVED. GIVEN WITH THE SEED: THE CARDS: each row of YtmmpojhjpghdlaaGreatDoorRows.lean that lists a variable, with what it lists TIED to the program's text (the seventh form; the later family's looks); each row that meets fmt, with fmt's text TOLD by the authors' own Lean function (tested against real Go, not proved from fmt's source: count such statements apart). THE CARD IS WHAT COUNTS. Prove the row's statement (the work); the ties are given (YtmmpojhjpghdlaaGreatDoorTie.lean); close each card by the builder's one call (the guide's Derived/Test/ToyasCard.lean, 'card_holds'). Laid BY PROGRAM, IN A SANDBOX (cutbox-door.mjs). By AI agents, Wed Nov 11 2026. No macro, syntax, notation, axiom, sorry.
-/
import Derived.Test.YtmmpojhjpghdlaaGreatDoorRows
import GoSem.ClaimSeven
namespace Go.Proofs.YtmmpojhjpghdlaaGreatDoor
namespace Rows

/-- THE TIED CARD OF 'calepinlaw09.DavAsks'. -/
def davAsksCard : Claim7 := { stood := { row := davAsksRow, standIns := [], harness := (true, "4f506864cf42cbada14c3e84a79ff04220f83668e2f9377025e5c19c3f943460"), looks := true }, kinds := [], alts := [], laidByText := true, laidKinds := [.data, .data, .data, .data, .sentinel, .sentinel, .pinned], laidTests := true, laidLooks := .later }
def DavAsksCardSaid : Prop := Claim7.holds Tryz.pinned (.plain (OpenSpec.ofChange davAsksSpec)) davAsksCard

/-- THE TIED CARD OF 'calepinlaw09.DavTells'. -/
def davTellsCard : Claim7 := { stood := { row := davTellsRow, standIns := [], harness := (true, "4f506864cf42cbada14c3e84a79ff04220f83668e2f9377025e5c19c3f943460"), looks := true }, kinds := [], alts := [], laidByText := true, laidKinds := [.data, .data, .data, .data, .sentinel, .sentinel, .pinned], laidTests := true, laidLooks := .later }
def DavTellsCardSaid : Prop := Claim7.holds Tryz.pinned (.plain (OpenSpec.ofChange davTellsSpec)) davTellsCard

/-- THE TIED CARD OF 'calepinlaw09.DavReads'. -/
def davReadsCard : Claim7 := { stood := { row := davReadsRow, standIns := [], harness := (true, "4f506864cf42cbada14c3e84a79ff04220f83668e2f9377025e5c19c3f943460"), looks := true }, kinds := [], alts := [], laidByText := true, laidKinds := [.data, .data, .data, .data, .sentinel, .sentinel, .pinned], laidTests := true, laidLooks := .later }
def DavReadsCardSaid : Prop := Claim7.holds Tryz.pinned (.plain (OpenSpec.ofChange davReadsSpec)) davReadsCard

/-- THE SECOND FORM's CARD OF 'calepinlaw09.DavAsks'. -/
def davAsksUptoCard : Claim7 := { stood := { row := davAsksUptoRow, standIns := [], harness := (true, "4f506864cf42cbada14c3e84a79ff04220f83668e2f9377025e5c19c3f943460"), looks := true }, kinds := [], alts := [], laidByText := true, laidKinds := [.data, .data, .data, .data, .sentinel, .sentinel, .pinned], laidTests := true, laidLooks := .later }
def DavAsksUptoCardSaid : Prop := Claim7.holds Tryz.pinned (.plain (OpenSpec.upto davAsksSpec)) davAsksUptoCard

/-- THE SECOND FORM's CARD OF 'calepinlaw09.DavTells'. -/
def davTellsUptoCard : Claim7 := { stood := { row := davTellsUptoRow, standIns := [], harness := (true, "4f506864cf42cbada14c3e84a79ff04220f83668e2f9377025e5c19c3f943460"), looks := true }, kinds := [], alts := [], laidByText := true, laidKinds := [.data, .data, .data, .data, .sentinel, .sentinel, .pinned], laidTests := true, laidLooks := .later }
def DavTellsUptoCardSaid : Prop := Claim7.holds Tryz.pinned (.plain (OpenSpec.upto davTellsSpec)) davTellsUptoCard

/-- THE SECOND FORM's CARD OF 'calepinlaw09.DavReads'. -/
def davReadsUptoCard : Claim7 := { stood := { row := davReadsUptoRow, standIns := [], harness := (true, "4f506864cf42cbada14c3e84a79ff04220f83668e2f9377025e5c19c3f943460"), looks := true }, kinds := [], alts := [], laidByText := true, laidKinds := [.data, .data, .data, .data, .sentinel, .sentinel, .pinned], laidTests := true, laidLooks := .later }
def DavReadsUptoCardSaid : Prop := Claim7.holds Tryz.pinned (.plain (OpenSpec.upto davReadsSpec)) davReadsUptoCard
end Rows
end Go.Proofs.YtmmpojhjpghdlaaGreatDoor
