/-
  Plain words on rows that a function value is asked of.
-/
import Derived.Test.YtnmcgmfpalgpnaaSesSpec
set_option linter.unusedVariables false
namespace Go.Proofs.Ytnmcgmfpalgpnaa.Se
open Go.Lib Go.RowKit

theorem any_false {α : Type} {t : List α} {q : α → Bool} (h : ∀ j, j < t.length → (∀ r, t[j]? = some r → q r = false)) : t.any q = false := by
  rw [List.any_eq_false]
  intro r hr
  obtain ⟨j, hj, he⟩ := List.getElem_of_mem hr
  have := h j hj r (by rw [List.getElem?_eq_getElem hj, he])
  simp [this]
theorem any_true {α : Type} {t : List α} {q : α → Bool} {j : Nat} {r : α} (h : t[j]? = some r) (hq : q r = true) : t.any q = true := List.any_eq_true.2 ⟨r, List.mem_of_getElem? h, hq⟩
def qAt {α : Type} (q : Ro α → Bool) (t : Tb α) (k : Nat) : Bool := match t[k]? with
  | some r => q r
  | none => false
theorem qAt_is {α : Type} {q : Ro α → Bool} {t : Tb α} {k : Nat} {r : Ro α} (h : t[k]? = some r) : qAt q t k = q r := by unfold qAt; rw [h]
theorem qAt_take {α : Type} {q : Ro α → Bool} {t : Tb α} {i : Nat} (h : ∀ j, j < i → qAt q t j = false) : ∀ y ∈ t.take i, q y = false := fun y hy => by
  obtain ⟨j, hj, he⟩ := List.getElem_of_mem hy
  have hj' : j < i ∧ j < t.length := by rw [List.length_take] at hj; omega
  rw [← qAt_is (q := q) (t := t) (k := j) (r := y) (by rw [List.getElem?_eq_getElem hj'.2, ← he, List.getElem_take])]
  exact h j hj'.1
end Go.Proofs.Ytnmcgmfpalgpnaa.Se
