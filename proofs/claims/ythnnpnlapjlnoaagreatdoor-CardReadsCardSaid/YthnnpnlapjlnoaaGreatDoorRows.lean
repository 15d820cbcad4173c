/-
  NARROWER THAN 'FOR EVERY INPUT', by the rows' own cells (each row's printed sentence says how): CardReads: laid · CardChecks: laid · CardFinds: laid · CardOrder: laid · CardNeeds: laid · CardSame: laid.
  DERIVED. THE GIVEN ROWS OF THIS SEAT. 6 by the template 'for every input the law returns true; each argument reads behind the call as it read before'; 0 by the template 'total and deterministic' (their statements: YthnnpnlapjlnoaaGreatDoorTotals.lean).
  GIVEN WITH THE SEED: the statements are not yours to turn. If you find one false, say at which input.
  Laid BY PROGRAM, IN A SANDBOX (cutbox-rows.mjs): the forced cells as the released guide's own fill.sh prints them over the translation a262a45a7290fc4f… (all of the seat's roots in one cut). By AI agents, Wed Nov 11 2026. No macro, syntax, notation, axiom, sorry.
-/
import Derived.Test.YthnnpnlapjlnoaaGreatDoorChecked
import GoSem.PinnedTables
import GoSem.Claim
import GoSem.ClaimJoined
import GoSem.ClaimMapViews
import Derived.JoinedTies
import Derived.KernelRfl
namespace Go.Proofs.YthnnpnlapjlnoaaGreatDoor
/- THE CELL 'sum', in the pinned program and in every row, IS THE sha256 OF THE DUMP (.gsa) THAT YthnnpnlapjlnoaaGreatDoorProg.lean LOADS. Nothing in Lean hashes anything: it is a label: what it is worth is what the hold of that sum in a sandbox is worth. -/
noncomputable def Tryz.pinned : Pinned := { name := "ythnnpnlapjlnoaagreatdoor", sum := "a262a45a7290fc4f677dbb0fac8b8e008bca82be0dbffb09fc5ce092722f8844", checked := Tryz.checked }
namespace Rows
def none {H : Type} : Left H := { results := [], args := [] }

/- WHAT THE LISTED PACKAGE-LEVEL VARIABLES READ AS WHEN THE CALL BEGINS. Each datum BY PROGRAM (the guide's laid-datum.mjs) off the statement by which the dump's own 'gosem.cut.vars' lays the variable. In a bare row this is a premise. The card (YthnnpnlapjlnoaaGreatDoorCards.lean) ties it to the program's text. -/
def laid_unicode_utf8_acceptRanges {H : Type} : DataW H := .agg [.agg [.lit (.int .u8 128), .lit (.int .u8 191)], .agg [.lit (.int .u8 160), .lit (.int .u8 191)], .agg [.lit (.int .u8 128), .lit (.int .u8 159)], .agg [.lit (.int .u8 144), .lit (.int .u8 191)], .agg [.lit (.int .u8 128), .lit (.int .u8 143)], .agg [.lit (.int .u8 0), .lit (.int .u8 0)], .agg [.lit (.int .u8 0), .lit (.int .u8 0)], .agg [.lit (.int .u8 0), .lit (.int .u8 0)], .agg [.lit (.int .u8 0), .lit (.int .u8 0)], .agg [.lit (.int .u8 0), .lit (.int .u8 0)], .agg [.lit (.int .u8 0), .lit (.int .u8 0)], .agg [.lit (.int .u8 0), .lit (.int .u8 0)], .agg [.lit (.int .u8 0), .lit (.int .u8 0)], .agg [.lit (.int .u8 0), .lit (.int .u8 0)], .agg [.lit (.int .u8 0), .lit (.int .u8 0)], .agg [.lit (.int .u8 0), .lit (.int .u8 0)]]
/-- One of Go's own tables, pinned by name: the form's constant. -/
def laid_unicode_utf8_first : DataW Unit := Go.Pinned.utf8First

/-- 'calepinlaw05.CardReads': WHATEVER THE INPUT: true; the input reads as it did. -/
def cardReadsSpec : ChangeSpec := { name := "cardReads", fn := fun _ => fun
  | [d] => { results := [.lit (.bool true)], args := [d] }
  | _ => none }
def cardReadsRow : OpenClaim := { program := "ythnnpnlapjlnoaagreatdoor", sum := "a262a45a7290fc4f677dbb0fac8b8e008bca82be0dbffb09fc5ce092722f8844", func := "calepin/calepinlaw05.CardReads", spec := "cardReads", inPlace := ["internal/bytealg.IndexByteString", "internal/bytealg.IndexString", "internal/abi.NoEscape", "internal/bytealg.abigen_runtime_cmpstring"], unfollowed := true, recurses := true, named := ["unicode/utf8.first", "unicode/utf8.acceptRanges", "internal/bytealg.MaxLen"], apart := false, laid := [("unicode/utf8.acceptRanges", laid_unicode_utf8_acceptRanges), ("unicode/utf8.first", laid_unicode_utf8_first)] }
def CardReadsSaid : Prop := cardReadsRow.holds Tryz.pinned (OpenSpec.ofChange cardReadsSpec)

/-- ITS FALSE NEIGHBOUR: 'it returns false'. Refute it at one input. -/
def cardReadsWrong : ChangeSpec := { name := "cardReads", fn := fun _ => fun
  | [d] => { results := [.lit (.bool false)], args := [d] }
  | _ => none }
def CardReadsWrongFalsely : Prop := cardReadsRow.holds Tryz.pinned (OpenSpec.ofChange cardReadsWrong)

/-- 'calepinlaw05.CardChecks': WHATEVER THE INPUT: true; the input reads as it did. -/
def cardChecksSpec : ChangeSpec := { name := "cardChecks", fn := fun _ => fun
  | [d] => { results := [.lit (.bool true)], args := [d] }
  | _ => none }
def cardChecksRow : OpenClaim := { program := "ythnnpnlapjlnoaagreatdoor", sum := "a262a45a7290fc4f677dbb0fac8b8e008bca82be0dbffb09fc5ce092722f8844", func := "calepin/calepinlaw05.CardChecks", spec := "cardChecks", inPlace := ["internal/bytealg.IndexByteString", "internal/bytealg.IndexString", "internal/abi.NoEscape", "internal/bytealg.abigen_runtime_cmpstring"], unfollowed := true, recurses := true, named := ["unicode/utf8.first", "unicode/utf8.acceptRanges", "internal/bytealg.MaxLen"], apart := false, laid := [("unicode/utf8.acceptRanges", laid_unicode_utf8_acceptRanges), ("unicode/utf8.first", laid_unicode_utf8_first)] }
def CardChecksSaid : Prop := cardChecksRow.holds Tryz.pinned (OpenSpec.ofChange cardChecksSpec)

/-- ITS FALSE NEIGHBOUR: 'it returns false'. Refute it at one input. -/
def cardChecksWrong : ChangeSpec := { name := "cardChecks", fn := fun _ => fun
  | [d] => { results := [.lit (.bool false)], args := [d] }
  | _ => none }
def CardChecksWrongFalsely : Prop := cardChecksRow.holds Tryz.pinned (OpenSpec.ofChange cardChecksWrong)

/-- 'calepinlaw05.CardFinds': WHATEVER THE INPUT: true; the input reads as it did. -/
def cardFindsSpec : ChangeSpec := { name := "cardFinds", fn := fun _ => fun
  | [d1, d2] => { results := [.lit (.bool true)], args := [d1, d2] }
  | _ => none }
def cardFindsRow : OpenClaim := { program := "ythnnpnlapjlnoaagreatdoor", sum := "a262a45a7290fc4f677dbb0fac8b8e008bca82be0dbffb09fc5ce092722f8844", func := "calepin/calepinlaw05.CardFinds", spec := "cardFinds", inPlace := ["internal/bytealg.IndexByteString", "internal/bytealg.IndexString", "internal/abi.NoEscape", "internal/bytealg.abigen_runtime_cmpstring"], unfollowed := true, recurses := true, named := ["unicode/utf8.first", "unicode/utf8.acceptRanges", "internal/bytealg.MaxLen"], apart := false, laid := [("unicode/utf8.acceptRanges", laid_unicode_utf8_acceptRanges), ("unicode/utf8.first", laid_unicode_utf8_first)] }
def CardFindsSaid : Prop := cardFindsRow.holds Tryz.pinned (OpenSpec.ofChange cardFindsSpec)

/-- ITS FALSE NEIGHBOUR: 'it returns false'. Refute it at one input. -/
def cardFindsWrong : ChangeSpec := { name := "cardFinds", fn := fun _ => fun
  | [d1, d2] => { results := [.lit (.bool false)], args := [d1, d2] }
  | _ => none }
def CardFindsWrongFalsely : Prop := cardFindsRow.holds Tryz.pinned (OpenSpec.ofChange cardFindsWrong)

/-- 'calepinlaw05.CardOrder': WHATEVER THE INPUT: true; the input reads as it did. -/
def cardOrderSpec : ChangeSpec := { name := "cardOrder", fn := fun _ => fun
  | [d1, d2] => { results := [.lit (.bool true)], args := [d1, d2] }
  | _ => none }
def cardOrderRow : OpenClaim := { program := "ythnnpnlapjlnoaagreatdoor", sum := "a262a45a7290fc4f677dbb0fac8b8e008bca82be0dbffb09fc5ce092722f8844", func := "calepin/calepinlaw05.CardOrder", spec := "cardOrder", inPlace := ["internal/bytealg.IndexByteString", "internal/bytealg.IndexString", "internal/abi.NoEscape", "internal/bytealg.abigen_runtime_cmpstring"], unfollowed := true, recurses := true, named := ["unicode/utf8.first", "unicode/utf8.acceptRanges", "internal/bytealg.MaxLen"], apart := false, laid := [("unicode/utf8.acceptRanges", laid_unicode_utf8_acceptRanges), ("unicode/utf8.first", laid_unicode_utf8_first)] }
def CardOrderSaid : Prop := cardOrderRow.holds Tryz.pinned (OpenSpec.ofChange cardOrderSpec)

/-- ITS FALSE NEIGHBOUR: 'it returns false'. Refute it at one input. -/
def cardOrderWrong : ChangeSpec := { name := "cardOrder", fn := fun _ => fun
  | [d1, d2] => { results := [.lit (.bool false)], args := [d1, d2] }
  | _ => none }
def CardOrderWrongFalsely : Prop := cardOrderRow.holds Tryz.pinned (OpenSpec.ofChange cardOrderWrong)

/-- 'calepinlaw05.CardNeeds': WHATEVER THE INPUT: true; the input reads as it did. -/
def cardNeedsSpec : ChangeSpec := { name := "cardNeeds", fn := fun _ => fun
  | [d1, d2] => { results := [.lit (.bool true)], args := [d1, d2] }
  | _ => none }
def cardNeedsRow : OpenClaim := { program := "ythnnpnlapjlnoaagreatdoor", sum := "a262a45a7290fc4f677dbb0fac8b8e008bca82be0dbffb09fc5ce092722f8844", func := "calepin/calepinlaw05.CardNeeds", spec := "cardNeeds", inPlace := ["internal/bytealg.IndexByteString", "internal/bytealg.IndexString", "internal/abi.NoEscape", "internal/bytealg.abigen_runtime_cmpstring"], unfollowed := true, recurses := true, named := ["unicode/utf8.first", "unicode/utf8.acceptRanges", "internal/bytealg.MaxLen"], apart := false, laid := [("unicode/utf8.acceptRanges", laid_unicode_utf8_acceptRanges), ("unicode/utf8.first", laid_unicode_utf8_first)] }
def CardNeedsSaid : Prop := cardNeedsRow.holds Tryz.pinned (OpenSpec.ofChange cardNeedsSpec)

/-- ITS FALSE NEIGHBOUR: 'it returns false'. Refute it at one input. -/
def cardNeedsWrong : ChangeSpec := { name := "cardNeeds", fn := fun _ => fun
  | [d1, d2] => { results := [.lit (.bool false)], args := [d1, d2] }
  | _ => none }
def CardNeedsWrongFalsely : Prop := cardNeedsRow.holds Tryz.pinned (OpenSpec.ofChange cardNeedsWrong)

/-- 'calepinlaw05.CardSame': WHATEVER THE INPUT: true; the input reads as it did. -/
def cardSameSpec : ChangeSpec := { name := "cardSame", fn := fun _ => fun
  | [d1, d2] => { results := [.lit (.bool true)], args := [d1, d2] }
  | _ => none }
def cardSameRow : OpenClaim := { program := "ythnnpnlapjlnoaagreatdoor", sum := "a262a45a7290fc4f677dbb0fac8b8e008bca82be0dbffb09fc5ce092722f8844", func := "calepin/calepinlaw05.CardSame", spec := "cardSame", inPlace := ["internal/bytealg.IndexByteString", "internal/bytealg.IndexString", "internal/abi.NoEscape", "internal/bytealg.abigen_runtime_cmpstring"], unfollowed := true, recurses := true, named := ["unicode/utf8.first", "unicode/utf8.acceptRanges", "internal/bytealg.MaxLen"], apart := false, laid := [("unicode/utf8.acceptRanges", laid_unicode_utf8_acceptRanges), ("unicode/utf8.first", laid_unicode_utf8_first)] }
def CardSameSaid : Prop := cardSameRow.holds Tryz.pinned (OpenSpec.ofChange cardSameSpec)

/-- ITS FALSE NEIGHBOUR: 'it returns false'. Refute it at one input. -/
def cardSameWrong : ChangeSpec := { name := "cardSame", fn := fun _ => fun
  | [d1, d2] => { results := [.lit (.bool false)], args := [d1, d2] }
  | _ => none }
def CardSameWrongFalsely : Prop := cardSameRow.holds Tryz.pinned (OpenSpec.ofChange cardSameWrong)

/- THE SECOND FORM. 'bulk': how many values and letters a reading holds, each counted each time it is reached (what is shared counts as often as it is met; a slice's spare places count too). A statement '..UptoSaid' is the law's where the arguments, and the package variables that the reading takes, are together of bulk at most 1048576: NARROWER than '..Said'. Prove '..Said' where nothing that the law and all that it calls make is longer than what came in: it says more and counts as full. Else prove '..UptoSaid'. A law counts once. -/
mutual
def uptoBulk {H : Type} : DataW H → Nat
  | .lit (.string bytes) => bytes.length + 1
  | .lit _ => 1
  | .nil => 1
  | .ptr d => uptoBulk d + 1
  | .slice elems spare => uptoBulkAll elems + uptoBulkAll spare + 1
  | .agg parts => uptoBulkAll parts + 1
  | .iface _ d => uptoBulk d + 1
  | .map entries => uptoBulkEntries entries + 1
  | .held _ => 1
def uptoBulkAll {H : Type} : List (DataW H) → Nat
  | [] => 0
  | d :: r => uptoBulk d + uptoBulkAll r
def uptoBulkEntries {H : Type} : List (Lit × DataW H) → Nat
  | [] => 0
  | x :: r => uptoBulkEntry x + uptoBulkEntries r
def uptoBulkEntry {H : Type} : Lit × DataW H → Nat
  | (.string bytes, d) => bytes.length + uptoBulk d + 1
  | (_, d) => uptoBulk d + 1
 end
def uptoSmall : (H : Type) → List (DataW H) → Bool := fun _ ds => decide (uptoBulkAll ds ≤ 1048576)
def OpenSpec.upto (s : _root_.Go.ChangeSpec) : _root_.Go.OpenSpec := { _root_.Go.OpenSpec.ofChange s with cond := some uptoSmall }

/-- 'calepinlaw05.CardReads', WHERE WHAT IT READS IS OF BULK AT MOST 1048576: true; the input reads as it did. -/
def cardReadsUptoRow : OpenClaim := { program := "ythnnpnlapjlnoaagreatdoor", sum := "a262a45a7290fc4f677dbb0fac8b8e008bca82be0dbffb09fc5ce092722f8844", func := "calepin/calepinlaw05.CardReads", spec := "cardReads", inPlace := ["internal/bytealg.IndexByteString", "internal/bytealg.IndexString", "internal/abi.NoEscape", "internal/bytealg.abigen_runtime_cmpstring"], unfollowed := true, recurses := true, named := ["unicode/utf8.first", "unicode/utf8.acceptRanges", "internal/bytealg.MaxLen"], apart := false, laid := [("unicode/utf8.acceptRanges", laid_unicode_utf8_acceptRanges), ("unicode/utf8.first", laid_unicode_utf8_first)], narrowed := true }
def CardReadsUptoSaid : Prop := cardReadsUptoRow.holds Tryz.pinned (OpenSpec.upto cardReadsSpec)

/-- 'calepinlaw05.CardChecks', WHERE WHAT IT READS IS OF BULK AT MOST 1048576: true; the input reads as it did. -/
def cardChecksUptoRow : OpenClaim := { program := "ythnnpnlapjlnoaagreatdoor", sum := "a262a45a7290fc4f677dbb0fac8b8e008bca82be0dbffb09fc5ce092722f8844", func := "calepin/calepinlaw05.CardChecks", spec := "cardChecks", inPlace := ["internal/bytealg.IndexByteString", "internal/bytealg.IndexString", "internal/abi.NoEscape", "internal/bytealg.abigen_runtime_cmpstring"], unfollowed := true, recurses := true, named := ["unicode/utf8.first", "unicode/utf8.acceptRanges", "internal/bytealg.MaxLen"], apart := false, laid := [("unicode/utf8.acceptRanges", laid_unicode_utf8_acceptRanges), ("unicode/utf8.first", laid_unicode_utf8_first)], narrowed := true }
def CardChecksUptoSaid : Prop := cardChecksUptoRow.holds Tryz.pinned (OpenSpec.upto cardChecksSpec)

/-- 'calepinlaw05.CardFinds', WHERE WHAT IT READS IS OF BULK AT MOST 1048576: true; the input reads as it did. -/
def cardFindsUptoRow : OpenClaim := { program := "ythnnpnlapjlnoaagreatdoor", sum := "a262a45a7290fc4f677dbb0fac8b8e008bca82be0dbffb09fc5ce092722f8844", func := "calepin/calepinlaw05.CardFinds", spec := "cardFinds", inPlace := ["internal/bytealg.IndexByteString", "internal/bytealg.IndexString", "internal/abi.NoEscape", "internal/bytealg.abigen_runtime_cmpstring"], unfollowed := true, recurses := true, named := ["unicode/utf8.first", "unicode/utf8.acceptRanges", "internal/bytealg.MaxLen"], apart := false, laid := [("unicode/utf8.acceptRanges", laid_unicode_utf8_acceptRanges), ("unicode/utf8.first", laid_unicode_utf8_first)], narrowed := true }
def CardFindsUptoSaid : Prop := cardFindsUptoRow.holds Tryz.pinned (OpenSpec.upto cardFindsSpec)

/-- 'calepinlaw05.CardOrder', WHERE WHAT IT READS IS OF BULK AT MOST 1048576: true; the input reads as it did. -/
def cardOrderUptoRow : OpenClaim := { program := "ythnnpnlapjlnoaagreatdoor", sum := "a262a45a7290fc4f677dbb0fac8b8e008bca82be0dbffb09fc5ce092722f8844", func := "calepin/calepinlaw05.CardOrder", spec := "cardOrder", inPlace := ["internal/bytealg.IndexByteString", "internal/bytealg.IndexString", "internal/abi.NoEscape", "internal/bytealg.abigen_runtime_cmpstring"], unfollowed := true, recurses := true, named := ["unicode/utf8.first", "unicode/utf8.acceptRanges", "internal/bytealg.MaxLen"], apart := false, laid := [("unicode/utf8.acceptRanges", laid_unicode_utf8_acceptRanges), ("unicode/utf8.first", laid_unicode_utf8_first)], narrowed := true }
def CardOrderUptoSaid : Prop := cardOrderUptoRow.holds Tryz.pinned (OpenSpec.upto cardOrderSpec)

/-- 'calepinlaw05.CardNeeds', WHERE WHAT IT READS IS OF BULK AT MOST 1048576: true; the input reads as it did. -/
def cardNeedsUptoRow : OpenClaim := { program := "ythnnpnlapjlnoaagreatdoor", sum := "a262a45a7290fc4f677dbb0fac8b8e008bca82be0dbffb09fc5ce092722f8844", func := "calepin/calepinlaw05.CardNeeds", spec := "cardNeeds", inPlace := ["internal/bytealg.IndexByteString", "internal/bytealg.IndexString", "internal/abi.NoEscape", "internal/bytealg.abigen_runtime_cmpstring"], unfollowed := true, recurses := true, named := ["unicode/utf8.first", "unicode/utf8.acceptRanges", "internal/bytealg.MaxLen"], apart := false, laid := [("unicode/utf8.acceptRanges", laid_unicode_utf8_acceptRanges), ("unicode/utf8.first", laid_unicode_utf8_first)], narrowed := true }
def CardNeedsUptoSaid : Prop := cardNeedsUptoRow.holds Tryz.pinned (OpenSpec.upto cardNeedsSpec)

/-- 'calepinlaw05.CardSame', WHERE WHAT IT READS IS OF BULK AT MOST 1048576: true; the input reads as it did. -/
def cardSameUptoRow : OpenClaim := { program := "ythnnpnlapjlnoaagreatdoor", sum := "a262a45a7290fc4f677dbb0fac8b8e008bca82be0dbffb09fc5ce092722f8844", func := "calepin/calepinlaw05.CardSame", spec := "cardSame", inPlace := ["internal/bytealg.IndexByteString", "internal/bytealg.IndexString", "internal/abi.NoEscape", "internal/bytealg.abigen_runtime_cmpstring"], unfollowed := true, recurses := true, named := ["unicode/utf8.first", "unicode/utf8.acceptRanges", "internal/bytealg.MaxLen"], apart := false, laid := [("unicode/utf8.acceptRanges", laid_unicode_utf8_acceptRanges), ("unicode/utf8.first", laid_unicode_utf8_first)], narrowed := true }
def CardSameUptoSaid : Prop := cardSameUptoRow.holds Tryz.pinned (OpenSpec.upto cardSameSpec)

end Rows
end Go.Proofs.YthnnpnlapjlnoaaGreatDoor
