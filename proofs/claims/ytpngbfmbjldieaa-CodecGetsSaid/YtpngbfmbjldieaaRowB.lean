/-
  ROWS OF BYTES; what a call that works on some blocks leaves ('Kp'). No function of the program stands here.
-/
import Derived.Maps.AppendAt
import Derived.Laws.AppendOwn
import Derived.Laws.OwnMore
import Derived.Below
import Derived.Lib.Hide
import Derived.Lib.IndexLaws
import Derived.WalkKit
import Derived.OwnWalk
set_option linter.unusedVariables false
namespace Go.Proofs.Ytpngbfmbjldieaa.Bo
open Go.Lib Go.RowKit

abbrev Row := List UInt8
def sv (l : Row) : Value := .string ⟨l.toArray⟩
theorem sv_data (s : ByteArray) : sv s.data.toList = .string s := by unfold sv; rw [Lib.mk_data]
/-- what a call that works on the blocks F leaves: all others -/
structure Kp (F : List Nat) (w w' : World) : Prop where
  os : w'.os = w.os
  tape : w'.tape = w.tape
  output : w'.output = w.output
  size : w.heap.size ≤ w'.heap.size
  block : ∀ k, k < w.heap.size → k ∉ F → w'.heap[k]? = w.heap[k]?
theorem Kp.refl (F : List Nat) (w : World) : Kp F w w := ⟨rfl, rfl, rfl, Nat.le_refl _, fun _ _ _ => rfl⟩
theorem Kp.of_below {F : List Nat} {w w' : World} (h : Below w.heap.size w w') : Kp F w w' := ⟨h.os, h.tape, h.output, h.size, fun k hk _ => h.block k hk⟩
theorem Kp.trans {F : List Nat} {a w w' : World} (h : Kp F a w) (k : Kp F w w') : Kp F a w' :=
  ⟨k.os.trans h.os, k.tape.trans h.tape, k.output.trans h.output, Nat.le_trans h.size k.size, fun i hi hn => by rw [k.block i (Nat.lt_of_lt_of_le hi h.size) hn, h.block i hi hn]⟩
theorem Kp.mono {F G : List Nat} {w w' : World} (h : Kp F w w') (hs : ∀ k ∈ F, k ∈ G) : Kp G w w' := ⟨h.os, h.tape, h.output, h.size, fun k hk hn => h.block k hk fun hf => hn (hs k hf)⟩
/-- on from a world in which blocks of F may be new -/
theorem Kp.then {F G : List Nat} {a w w' : World} (h : Kp F a w) (k : Kp G w w') (hG : ∀ x ∈ G, x ∈ F ∨ a.heap.size ≤ x) : Kp F a w' :=
  ⟨k.os.trans h.os, k.tape.trans h.tape, k.output.trans h.output, Nat.le_trans h.size k.size, fun i hi hn => by
    rw [k.block i (Nat.lt_of_lt_of_le hi h.size) (fun hg => by
      rcases hG i hg with h1 | h1
      · exact hn h1
      · omega), h.block i hi hn]⟩
theorem Kp.below {F : List Nat} {B : Nat} {a w w' : World} (h : Kp F w w') (ha : Below B a w) (hF : ∀ k ∈ F, B ≤ k) (hB : B ≤ w.heap.size) : Below B a w' :=
  ⟨h.os.trans ha.os, h.tape.trans ha.tape, h.output.trans ha.output, Nat.le_trans ha.size h.size, fun k hk => by rw [h.block k (by omega) (fun hf => by have := hF k hf; omega), ha.block k hk]⟩
theorem Kp.setCell {F : List Nat} {a w : World} (h : Kp F a w) {ad : Addr} (hF : ad.block ∈ F ∨ a.heap.size ≤ ad.block) (v : Value) : Kp F a (w.setCell ad v) :=
  ⟨h.os, h.tape, h.output, Nat.le_trans h.size (by simp), fun k hk hn => by
    rw [Below.heap_setCell w ad v k (fun e => by
      subst e
      rcases hF with hF | hF
      · exact hn hF
      · omega)]
    exact h.block k hk hn⟩
theorem Kp.grown {F : List Nat} {a w w' : World} {row : Option Nat} (h : Kp F a w) (hg : w.grownBy w' row) (hF : ∀ k, row = some k → k ∈ F ∨ a.heap.size ≤ k) : Kp F a w' :=
  ⟨hg.os.trans h.os, hg.tape.trans h.tape, hg.output.trans h.output, Nat.le_trans h.size hg.size, fun k hk hn => by
    rw [hg.block k (Nat.lt_of_lt_of_le hk h.size) (fun e => by
      rcases hF k e.symm with h1 | h1
      · exact hn h1
      · omega)]
    exact h.block k hk hn⟩
theorem Kp.belowThen {F : List Nat} {a w w' : World} (h : Kp F a w) (hb : Below w.heap.size w w') : Kp F a w' := h.trans (Kp.of_below hb)

theorem ownsRow_heap {w w' : World} {B : Nat} {e : TypeId} {size : Nat} {v : Value} {n : Nat} {xs : List Value} (h : w.ownsRow B e size v n xs) (hk : ∀ g, v.ownBlock = some g → w'.heap[g]? = w.heap[g]?) : w'.ownsRow B e size v n xs := by
  refine ⟨h.1, ?_⟩
  rcases h.2 with h | ⟨g, cap, cur, e1, e2, e3, e4⟩
  · exact .inl h
  · exact .inr ⟨g, cap, cur, e1, e2, by rw [hk g (by rw [e1]; rfl)]; exact e3, e4⟩
/-- (of its own: two modules of the library have a law of this name, in two forms) -/
theorem heap_alloc_old (w : World) (o : Obj) (i : Nat) (h : i < w.heap.size) : (w.alloc o).heap[i]? = w.heap[i]? := by
  unfold World.alloc
  simp only
  rw [Array.getElem?_push]
  rw [if_neg (by omega)]
end Go.Proofs.Ytpngbfmbjldieaa.Bo
