/-
  PLAIN LAWS FOR THE LAW HttpWrites: a response that is printed is read as itself; memory that two boxes lie in.
-/
import Derived.Test.YtiaollhiggeolaaDoorHttpPiecesP
import Derived.Test.YtiaollhiggeolaaDoorHttpRefAsk
import Derived.Test.YtiaollhiggeolaaDoorHttpRefSame
import Derived.Test.YtiaollhiggeolaaDoorHttpRefWrite
import Derived.Test.YtiaollhiggeolaaDoorHttpFirst
import Derived.Test.YtiaollhiggeolaaDoorHttpCodeM
set_option linter.unusedVariables false
namespace Go.Proofs.YtiaollhiggeolaaDoor.Ht
open Go.Lib Go.RowKit

theorem szF_ge : ∀ (fs : List Fd), fs.length ≤ szF fs
  | [] => Nat.zero_le _
  | f :: fs => by
    have := szF_ge fs
    rw [szF_cons, List.length_cons]; omega
theorem reason_rng (n : Int) : rng 32 126 false (reason n) = true := by
  unfold reason
  by_cases h200 : n = 200
  · rw [if_pos h200]; decide
  rw [if_neg h200]
  by_cases h201 : n = 201
  · rw [if_pos h201]; decide
  rw [if_neg h201]
  by_cases h204 : n = 204
  · rw [if_pos h204]; decide
  rw [if_neg h204]
  by_cases h207 : n = 207
  · rw [if_pos h207]; decide
  rw [if_neg h207]
  by_cases h400 : n = 400
  · rw [if_pos h400]; decide
  rw [if_neg h400]
  by_cases h403 : n = 403
  · rw [if_pos h403]; decide
  rw [if_neg h403]
  by_cases h404 : n = 404
  · rw [if_pos h404]; decide
  rw [if_neg h404]
  by_cases h405 : n = 405
  · rw [if_pos h405]; decide
  rw [if_neg h405]
  by_cases h409 : n = 409
  · rw [if_pos h409]; decide
  rw [if_neg h409]
  by_cases h412 : n = 412
  · rw [if_pos h412]; decide
  rw [if_neg h412]
  by_cases h413 : n = 413
  · rw [if_pos h413]; decide
  rw [if_neg h413]
  by_cases h421 : n = 421
  · rw [if_pos h421]; decide
  rw [if_neg h421]
  by_cases h503 : n = 503
  · rw [if_pos h503]; decide
  rw [if_neg h503]
  by_cases h507 : n = 507
  · rw [if_pos h507]; decide
  rw [if_neg h507]
  decide
theorem printA_ok {n : Int} {fs : List Fd} {B S : Row} (h : printA n fs B = (S, 0)) : (100 ≤ n ∧ n ≤ 599) ∧ write (rowA n.toNat) fs B = (S, 0) := by
  unfold printA at h
  split at h
  · exact ⟨by assumption, h⟩
  · simp at h
theorem readA_pr {n : Int} {fs : List Fd} {B S : Row} (h : printA n fs B = (S, 0)) (more : Row) : readA (S ++ more) = .inl (n.toNat, fs, B, S.length) := by
  obtain ⟨h1, h2⟩ := printA_ok h
  obtain ⟨f1, f2⟩ := firstA_pr (n := n.toNat) (why := reason (n.toNat : Int)) (by omega) (reason_rng _)
  exact read_pr f1 f2 h2 more
/-- two boxes of the call's own, behind what there was -/
structure Two (w : World) (o0 o1 : Obj) (W : World) : Prop where
  bel : Below w.heap.size w W
  at0 : W.heap[w.heap.size]? = some o0
  at1 : W.heap[w.heap.size + 1]? = some o1
theorem Two.next {w W W' : World} {o0 o1 : Obj} (h : Two w o0 o1 W) (hb : Below W.heap.size W W') : Two w o0 o1 W' :=
  ⟨below_then h.bel hb, (hb.block _ (Array.getElem?_eq_some_iff.1 h.at0).1).trans h.at0, (hb.block _ (Array.getElem?_eq_some_iff.1 h.at1).1).trans h.at1⟩
theorem Two.new {w : World} {o0 o1 : Obj} : Two w o0 o1 ((w.alloc o0).alloc o1) := by
  have z1 : (w.alloc o0).heap.size = w.heap.size + 1 := Array.size_push _
  have h1 : (w.alloc o0).heap[w.heap.size]? = some o0 := heap_alloc_new w o0
  have hb : Below (w.alloc o0).heap.size (w.alloc o0) ((w.alloc o0).alloc o1) := (Below.refl _ _).alloc (Nat.le_refl _) _
  refine ⟨below_then ((Below.refl _ _).alloc (Nat.le_refl _) _) hb, (hb.block _ (by omega)).trans h1, ?_⟩
  rw [← z1]; exact heap_alloc_new _ _
end Go.Proofs.YtiaollhiggeolaaDoor.Ht
