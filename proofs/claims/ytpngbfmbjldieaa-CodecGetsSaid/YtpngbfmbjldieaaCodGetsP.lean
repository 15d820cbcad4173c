/-
  PLAIN: what is read of all the bytes, and the error that the document's reader ends with (for CodecGets).
-/
import Derived.Test.YtpngbfmbjldieaaCodLaw
set_option linter.unusedVariables false
namespace Go.Proofs.Ytpngbfmbjldieaa.Ly
open Bo (Row)
open Cd (St endS Rep repS rep0 repB cod_rep Com comS com0 comB cod_com Lg lg0 logS logB log_form com0_ok)

theorem got_end {α : Type} (get : St → α × St) (z : α) (l : Row) : (got get z l).2 = endS (get (some (l, false))).2 := by
  unfold got
  by_cases h : endS (get (some (l, false))).2 = 0
  · rw [if_pos h, h]
  · rw [if_neg h]
theorem got_val {α : Type} {get : St → α × St} {z : α} {l : Row} (h : (got get z l).2 = 0) : (got get z l).1 = (get (some (l, false))).1 := by
  rw [got_end] at h
  unfold got
  rw [if_pos h]
theorem got_zero {α : Type} {get : St → α × St} {z : α} {l : Row} (h : (got get z l).2 ≠ 0) : (got get z l).1 = z := by
  rw [got_end] at h
  unfold got
  rw [if_neg h]
/-- where nothing was wrong, the bytes are the value's, whoever read them -/
theorem got_comB {l : Row} (h : (got comS com0 l).2 = 0) : comB (got comS com0 l).1 = l ∧ comB (comS (some (l, false))).1 = l := by
  rw [got_val h]
  rw [got_end] at h
  exact ⟨(cod_com.form h).symm, (cod_com.form h).symm⟩
theorem got_repB {l : Row} (h : (got repS rep0 l).2 = 0) : repB (got repS rep0 l).1 = l ∧ repB (repS (some (l, false))).1 = l := by
  rw [got_val h]
  rw [got_end] at h
  exact ⟨(cod_rep.form h).symm, (cod_rep.form h).symm⟩
theorem got_logB {l : Row} (h : (got logS lg0 l).2 = 0) : logB (got logS lg0 l).1 = some l ∧ logB (logS (some (l, false))).1 = some l := by
  rw [got_val h]
  rw [got_end] at h
  exact ⟨log_form h, log_form h⟩
end Go.Proofs.Ytpngbfmbjldieaa.Ly
