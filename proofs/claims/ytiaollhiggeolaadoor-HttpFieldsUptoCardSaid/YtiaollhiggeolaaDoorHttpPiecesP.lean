/-
  WHAT THE WALK OF THE LAW HttpPieces WANTS, plain.
-/
import Derived.Test.YtiaollhiggeolaaDoorHttpFirst
import Derived.IntWalk
import Derived.BigQuiet
import Derived.Deep.QuietTactic
import Derived.LoopTactic
set_option linter.unusedVariables false
namespace Go.Proofs.YtiaollhiggeolaaDoor.Ht
open Go.Lib Go.RowKit

theorem write_len {row : Row} {fs : List Fd} {body s : Row} (h : write row fs body = (s, 0)) : s.length ≤ 73728 ∧ 1 ≤ s.length := by
  unfold write at h
  split at h
  · simp at h
  · split at h
    · simp at h
    · rename_i h2
      simp only [Prod.mk.injEq, and_true] at h
      subst h
      have hne : 1 ≤ (headR row fs body.length).length := by unfold headR; simp
      rw [List.length_append]
      omega
theorem printQ_ok {M T : Row} {fs : List Fd} {B S : Row} (h : printQ M T fs B = (S, 0)) : asked M T = true ∧ write (rowQ M T) fs B = (S, 0) := by
  unfold printQ at h
  split at h
  · exact ⟨by assumption, h⟩
  · simp at h
theorem printQ_no {M T : Row} {fs : List Fd} {B : Row} (h : (printQ M T fs B).2 ≠ 0) : (printQ M T fs B).1 = [] := by
  unfold printQ at h ⊢
  split at h
  · rename_i ha
    rw [if_pos ha]
    unfold write at h ⊢
    split at h
    · rename_i h1; rw [if_pos h1]
    · rename_i h1
      rw [if_neg h1]
      split at h
      · rename_i h2; rw [if_pos h2]
      · exact absurd rfl h
  · rename_i ha; rw [if_neg ha]
theorem readQ_pr {M T : Row} {fs : List Fd} {B S : Row} (h : printQ M T fs B = (S, 0)) (more : Row) : readQ (S ++ more) = .inl ((M, T), fs, B, S.length) := by
  obtain ⟨h1, h2⟩ := printQ_ok h
  obtain ⟨f1, f2⟩ := firstQ_pr h1
  exact read_pr f1 f2 h2 more
theorem readQ_part {M T : Row} {fs : List Fd} {B S : Row} (h : printQ M T fs B = (S, 0)) (k : Nat) (hk : k < S.length) : readQ (S.take k) = .inr 91 := by
  obtain ⟨h1, h2⟩ := printQ_ok h
  obtain ⟨f1, f2⟩ := firstQ_pr h1
  exact read_part f1 f2 h2 k hk
theorem at_k (z : Int) (n : Nat) (h : 1 ≤ n) (hn : n ≤ 4194304) : ∃ k : Nat, wrap64 ((IntKind.u64.wrap z).tmod (n : Int)) = (k : Int) ∧ k < n := by
  have h0 : 0 ≤ IntKind.u64.wrap z := by
    unfold IntKind.wrap
    simp only [IntKind.bits, IntKind.signed]
    simp
    omega
  have e : (IntKind.u64.wrap z).tmod (n : Int) = (IntKind.u64.wrap z) % (n : Int) := Int.tmod_eq_emod_of_nonneg h0
  have h1 := Int.emod_nonneg (IntKind.u64.wrap z) (b := (n : Int)) (by omega)
  have h2 := Int.emod_lt_of_pos (IntKind.u64.wrap z) (b := (n : Int)) (by omega)
  obtain ⟨q, hq⟩ : ∃ q, (IntKind.u64.wrap z) % (n : Int) = q := ⟨_, rfl⟩
  rw [hq] at h1 h2
  refine ⟨q.toNat, ?_, by omega⟩
  rw [e, hq, Int.toNat_of_nonneg h1]
  exact IntWalk.wrap64_in _ ⟨by omega, by omega⟩

end Go.Proofs.YtiaollhiggeolaaDoor.Ht
