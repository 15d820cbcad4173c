/-
  ALL THE PROGRAM's CALLS; a []int that came in, in the walks' words.
-/
import Derived.Test.YtnmcgmfpalgpnaaSesOpenI
import Derived.Test.YtnmcgmfpalgpnaaSesSetBS
import Derived.Test.YtnmcgmfpalgpnaaSesRoomW
import Derived.Test.YtnmcgmfpalgpnaaKindInts
set_option linter.unusedVariables false
namespace Go.Proofs.Ytnmcgmfpalgpnaa.Se
open Go.Lib Go.RowKit
theorem zs_at {W : World} {v : Value} {zs : List Int} (h : La.IntsAt W v zs) : ZsAt W v zs := by
  obtain ⟨A, b, off, c, rfl, h1, h2, h3, h4⟩ := h
  refine ⟨A, b, off, c, rfl, h1, fun h => h2 (fun e => by rw [e] at h; simp at h), fun j z hz => ?_⟩
  obtain ⟨hl, hv⟩ := List.getElem?_eq_some_iff.1 hz
  rw [h3 j hl, List.getD_eq_getElem?_getD, hz]; rfl
theorem zs_wf {W : World} {v : Value} {zs : List Int} (h : La.IntsAt W v zs) : ∀ z ∈ zs, (Lit.int .i64 z).wf = true := by
  obtain ⟨A, b, off, c, rfl, h1, h2, h3, h4⟩ := h
  intro z hz
  unfold Lit.wf
  simp only [Bool.and_eq_true, decide_eq_true_eq]
  exact h4 z hz
end Go.Proofs.Ytnmcgmfpalgpnaa.Se
