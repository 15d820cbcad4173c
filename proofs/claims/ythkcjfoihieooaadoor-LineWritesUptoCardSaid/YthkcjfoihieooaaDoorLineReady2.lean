/-
  WHAT THE BULK OF A LINE GIVES TO THE WALKS: lengths once more.
-/
import Derived.Test.YthkcjfoihieooaaDoorLineReady
set_option linter.unusedVariables false
namespace Go.Proofs.YthkcjfoihieooaaDoor.La
open Go.Lib Go.RowKit Go.Shelf Go.ChangeShapes Go.WideShapes Go.ChangeAt Li

theorem groupL {L : LD} (h : bulkL L ≤ 1048576) : L.group.length ≤ 4611686018427387904 := by unfold bulkL at h; omega
theorem nameL {L : LD} (h : bulkL L ≤ 1048576) : L.name.length ≤ 4611686018427387904 := by unfold bulkL at h; omega
theorem namesL {L : LD} (h : bulkL L ≤ 1048576) : ∀ p ∈ L.params, p.name.length ≤ 4611686018427387904 := fun p hp => by
  unfold bulkL at h
  have h1 := bulkPs_mem hp
  unfold bulkP at h1
  omega
theorem manyL {L : LD} (h : bulkL L ≤ 1048576) : L.params.length ≤ 1099511627776 := by have := paramsL h; omega
end Go.Proofs.YthkcjfoihieooaaDoor.La
