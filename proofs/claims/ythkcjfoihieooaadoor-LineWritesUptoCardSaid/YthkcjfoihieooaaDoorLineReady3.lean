/-
  WHAT THE BULK OF A LINE GIVES TO THE WALK OF LineWrites.
-/
import Derived.Test.YthkcjfoihieooaaDoorLineReady2
set_option linter.unusedVariables false
namespace Go.Proofs.YthkcjfoihieooaaDoor.La
open Go.Lib Go.RowKit Go.Shelf Go.ChangeShapes Go.WideShapes Go.ChangeAt Li

theorem groupL' {L : LD} (h : bulkL L ≤ 1048576) : L.group.length ≤ 281474976710656 := by unfold bulkL at h; omega
theorem nameL' {L : LD} (h : bulkL L ≤ 1048576) : L.name.length ≤ 281474976710656 := by unfold bulkL at h; omega
theorem namesL' {L : LD} (h : bulkL L ≤ 1048576) : ∀ p ∈ L.params, p.name.length ≤ 281474976710656 := fun p hp => by
  unfold bulkL at h
  have h1 := bulkPs_mem hp
  unfold bulkP at h1
  omega
theorem prL' {L : LD} (h : bulkL L ≤ 1048576) : (pr L).length ≤ 1099511627776 := by have := prL h; omega
end Go.Proofs.YthkcjfoihieooaaDoor.La
