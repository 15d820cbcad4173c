/-
  DERIVED. GIVEN WITH THE SEED: THE CARDS: each row of YtgpkkdimafmehaaDoorRows.lean that lists a variable, with what it lists TIED to the program's text (the seventh form; the later family's looks); each row that meets fmt, with fmt's text TOLD by the authors' own Lean function (tested against real Go, not proved from fmt's source: count such statements apart). THE CARD IS WHAT COUNTS. Prove the row's statement (the work); the ties are given (YtgpkkdimafmehaaDoorTie.lean); close each card by the builder's one call (the guide's Derived/Test/ToyasCard.lean, 'card_holds'). Laid BY PROGRAM, IN A SANDBOX (cutbox-door.mjs). By AI agents, Wed Nov 11 2026. No macro, syntax, notation, axiom, sorry.
-/
import Derived.Test.YtgpkkdimafmehaaDoorRows
import GoSem.ClaimSeven
namespace Go.Proofs.YtgpkkdimafmehaaDoor
namespace Rows

/-- THE TIED CARD OF 'calepinlaw10.CondTags'. -/
def condTagsCard : Claim7 := { stood := { row := condTagsRow, standIns := [], harness := (true, "32483fddaf5d98982211346dfaed1a3bb9f1e5bb7b5b97c0eea060176e9f2d1b"), looks := false }, kinds := [], alts := [], laidByText := true, laidKinds := [.data, .data, .data, .data, .pinned], laidTests := true, laidLooks := .later }
def CondTagsCardSaid : Prop := Claim7.holds Tryd.pinned (.plain (OpenSpec.ofChange condTagsSpec)) condTagsCard

/-- THE TIED CARD OF 'calepinlaw10.CondHolds'. -/
def condHoldsCard : Claim7 := { stood := { row := condHoldsRow, standIns := [], harness := (true, "32483fddaf5d98982211346dfaed1a3bb9f1e5bb7b5b97c0eea060176e9f2d1b"), looks := false }, kinds := [], alts := [], laidByText := true, laidKinds := [.data, .data, .data, .data, .pinned], laidTests := true, laidLooks := .later }
def CondHoldsCardSaid : Prop := Claim7.holds Tryd.pinned (.plain (OpenSpec.ofChange condHoldsSpec)) condHoldsCard

/-- THE TIED CARD OF 'calepinlaw10.CondTwins'. -/
def condTwinsCard : Claim7 := { stood := { row := condTwinsRow, standIns := [], harness := (true, "32483fddaf5d98982211346dfaed1a3bb9f1e5bb7b5b97c0eea060176e9f2d1b"), looks := false }, kinds := [], alts := [], laidByText := true, laidKinds := [.data, .data, .data, .data, .pinned], laidTests := true, laidLooks := .later }
def CondTwinsCardSaid : Prop := Claim7.holds Tryd.pinned (.plain (OpenSpec.ofChange condTwinsSpec)) condTwinsCard

/-- THE TIED CARD OF 'calepinlaw10.CondOrder'. -/
def condOrderCard : Claim7 := { stood := { row := condOrderRow, standIns := [], harness := (true, "32483fddaf5d98982211346dfaed1a3bb9f1e5bb7b5b97c0eea060176e9f2d1b"), looks := false }, kinds := [], alts := [], laidByText := true, laidKinds := [.data, .data, .data, .data, .pinned], laidTests := true, laidLooks := .later }
def CondOrderCardSaid : Prop := Claim7.holds Tryd.pinned (.plain (OpenSpec.ofChange condOrderSpec)) condOrderCard

/-- THE SECOND FORM's CARD OF 'calepinlaw10.CondTags'. -/
def condTagsUptoCard : Claim7 := { stood := { row := condTagsUptoRow, standIns := [], harness := (true, "32483fddaf5d98982211346dfaed1a3bb9f1e5bb7b5b97c0eea060176e9f2d1b"), looks := false }, kinds := [], alts := [], laidByText := true, laidKinds := [.data, .data, .data, .data, .pinned], laidTests := true, laidLooks := .later }
def CondTagsUptoCardSaid : Prop := Claim7.holds Tryd.pinned (.plain (OpenSpec.upto condTagsSpec)) condTagsUptoCard

/-- THE SECOND FORM's CARD OF 'calepinlaw10.CondHolds'. -/
def condHoldsUptoCard : Claim7 := { stood := { row := condHoldsUptoRow, standIns := [], harness := (true, "32483fddaf5d98982211346dfaed1a3bb9f1e5bb7b5b97c0eea060176e9f2d1b"), looks := false }, kinds := [], alts := [], laidByText := true, laidKinds := [.data, .data, .data, .data, .pinned], laidTests := true, laidLooks := .later }
def CondHoldsUptoCardSaid : Prop := Claim7.holds Tryd.pinned (.plain (OpenSpec.upto condHoldsSpec)) condHoldsUptoCard

/-- THE SECOND FORM's CARD OF 'calepinlaw10.CondTwins'. -/
def condTwinsUptoCard : Claim7 := { stood := { row := condTwinsUptoRow, standIns := [], harness := (true, "32483fddaf5d98982211346dfaed1a3bb9f1e5bb7b5b97c0eea060176e9f2d1b"), looks := false }, kinds := [], alts := [], laidByText := true, laidKinds := [.data, .data, .data, .data, .pinned], laidTests := true, laidLooks := .later }
def CondTwinsUptoCardSaid : Prop := Claim7.holds Tryd.pinned (.plain (OpenSpec.upto condTwinsSpec)) condTwinsUptoCard

/-- THE SECOND FORM's CARD OF 'calepinlaw10.CondOrder'. -/
def condOrderUptoCard : Claim7 := { stood := { row := condOrderUptoRow, standIns := [], harness := (true, "32483fddaf5d98982211346dfaed1a3bb9f1e5bb7b5b97c0eea060176e9f2d1b"), looks := false }, kinds := [], alts := [], laidByText := true, laidKinds := [.data, .data, .data, .data, .pinned], laidTests := true, laidLooks := .later }
def CondOrderUptoCardSaid : Prop := Claim7.holds Tryd.pinned (.plain (OpenSpec.upto condOrderSpec)) condOrderUptoCard
end Rows
end Go.Proofs.YtgpkkdimafmehaaDoor
