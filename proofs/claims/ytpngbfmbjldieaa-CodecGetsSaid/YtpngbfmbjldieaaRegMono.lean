/-
  A REGION THAT DRAWS ITS ORDER AND IN WHICH WHAT HAS COME UP STAYS (every operation leaves what there is): a fact for each operation in place of an order; a fact F i may hang on the world, if it is kept by worlds that leave what there is.
-/
import Derived.Test.YtpngbfmbjldieaaRegRow
import Derived.Below
set_option linter.unusedVariables false
namespace Go.Proofs.Ytpngbfmbjldieaa.Rg
open Go Go.RowKit

section
variable {P : Program} {Q : Exit → Act → World → Prop} {a : Act} {sl : List Nat} {w1 : World} {F : Nat → Value → World → Prop}
structure MonoI (w1 : World) (sl : List Nat) (F : Nat → Value → World → Prop) (d : Nat → Bool) (u : Nat → Value) (W : World) : Prop where
  bel : Below w1.heap.size w1 W
  val : ∀ i s, sl[i]? = some s → d i = true → F i (u s) W
/-- what is known ahead of an operation: of those on which it waits -/
def Had (a : Act) (sl : List Nat) (F : Nat → Value → World → Prop) (o : Oper) (u : Nat → Value) (W : World) : Prop :=
  ∀ k s, k ∈ deps o → sl[k]? = some s → (puts a sl u).eval (.tmp s) = u s ∧ F k (u s) W
def MonoAt (P : Program) (Q : Exit → Act → World → Prop) (a : Act) (sl : List Nat) (w1 : World) (F : Nat → Value → World → Prop) (i : Nat) (o : Oper) : Prop :=
  o.guard = none ∧ (∃ s, sl[i]? = some s ∧ o.dst = some s) ∧ ∀ u W, Below w1.heap.size w1 W → Had a sl F o u W →
    ∀ K : Act → World → Prop, (∀ v w', Below W.heap.size W w' → F i v w' → K ((puts a sl u).put o.dst v) w') → Oper.wp P o (puts a sl u) W K Q
def Monos (P : Program) (Q : Exit → Act → World → Prop) (a : Act) (sl : List Nat) (w1 : World) (F : Nat → Value → World → Prop) : Nat → List Oper → Prop
  | _, [] => True
  | i, o :: os => MonoAt P Q a sl w1 F i o ∧ Monos P Q a sl w1 F (i + 1) os
/-- an operation that yields a value -/
theorem MonoAt.yields {i s : Nat} {o : Oper} (hg : o.guard = none) (hs : sl[i]? = some s) (hds : o.dst = some s)
    (h : ∀ u W, Below w1.heap.size w1 W → Had a sl F o u W → ∃ v w', (execOp (puts a sl u).eval o).run P W = .ok (.value v) w' ∧ Below W.heap.size W w' ∧ F i v w') : MonoAt P Q a sl w1 F i o := by
  refine ⟨hg, ⟨s, hs, hds⟩, fun u W hW hd K hK => ?_⟩
  obtain ⟨v, w', h1, h2, h3⟩ := h u W hW hd
  exact wp_yields rfl v h1 (hK v w' h2 h3)
/-- an operation that calls -/
theorem MonoAt.calls {i s : Nat} {o : Oper} (hg : o.guard = none) (hs : sl[i]? = some s) (hds : o.dst = some s)
    (h : ∀ u W, Below w1.heap.size w1 W → Had a sl F o u W → ∃ f args, (execOp (puts a sl u).eval o).run P W = .ok (.enter f args) W ∧ Calls P f args W fun e w' => (∃ v, e = .returned v ∧ F i v w') ∧ Below W.heap.size W w') : MonoAt P Q a sl w1 F i o := by
  refine ⟨hg, ⟨s, hs, hds⟩, fun u W hW hd K hK => ?_⟩
  obtain ⟨f, args, h1, h2⟩ := h u W hW hd
  unfold Oper.wp
  rw [h1]
  show Calls P f args W _
  refine h2.mono ?_
  rintro e w' ⟨⟨v, rfl, h3⟩, h4⟩
  exact hK v w' h4 h3
theorem MonoAt.stepAt {i : Nat} {o : Oper} (hnd : sl.Nodup) (hsz : ∀ s ∈ sl, s < a.tmps.size) (hF : ∀ i v W W', F i v W → Below W.heap.size W W' → F i v W') (hdl : ∀ k ∈ deps o, k < sl.length) (h : MonoAt P Q a sl w1 F i o) : StepAt P Q a sl (MonoI w1 sl F) i o := by
  obtain ⟨h1, ⟨s, h2, h3⟩, h4⟩ := h
  refine ⟨⟨h1, ?_⟩, fun d u W hI hd hdep K hK => h4 u W hI.bel (fun k t hk ht => ?_) K fun v w' hb hv => hK v w' ⟨?_, fun j t hj hdj => ?_⟩⟩
  · rw [h3]
    show sl.contains s = true
    exact List.contains_iff_mem.2 (List.mem_of_getElem? h2)
  · have hm := List.mem_of_getElem? ht
    exact ⟨eval_new hnd (List.contains_iff_mem.2 hm) (hsz t hm), hI.val k t ht (hdep k hk)⟩
  · exact ⟨hb.os.trans hI.bel.os, hb.tape.trans hI.bel.tape, hb.output.trans hI.bel.output, Nat.le_trans hI.bel.size hb.size, fun k hk => (hb.block k (Nat.lt_of_lt_of_le hk hI.bel.size)).trans (hI.bel.block k hk)⟩
  · by_cases hji : j = i
    · subst hji
      obtain rfl := Option.some.inj (h2.symm.trans hj)
      rw [h3, updv_self]
      exact hv
    · rw [upd_ne _ hji] at hdj
      have hne : t ≠ s := fun e => by
        subst e
        exact hji ((List.getElem?_inj (List.getElem?_eq_some_iff.1 hj).1 hnd).1 (hj.trans h2.symm))
      rw [h3, updv_ne _ _ hne]
      exact hF _ _ _ _ (hI.val j t hj hdj) hb
theorem Monos.steps (hnd : sl.Nodup) (hsz : ∀ s ∈ sl, s < a.tmps.size) (hF : ∀ i v W W', F i v W → Below W.heap.size W W' → F i v W') : ∀ (os : List Oper) (n : Nat), (∀ o ∈ os, ∀ k ∈ deps o, k < sl.length) → Monos P Q a sl w1 F n os → Steps P Q a sl (MonoI w1 sl F) n os
  | [], _, _, _ => trivial
  | o :: os, n, hdl, h => ⟨h.1.stepAt hnd hsz hF (hdl o (by simp)), Monos.steps hnd hsz hF os (n + 1) (fun q hq => hdl q (by simp [hq])) h.2⟩
end
def depsIn (ops : Array Oper) (n : Nat) : Bool := ops.toList.all fun o => (deps o).all fun k => decide (k < n)
/-- the region -/
theorem region_mono {P : Program} {id : Nat} {ops : Array Oper} {Q : Exit → Act → World → Prop} {a : Act} {w : World} (hm : P.follows .mixedOrders = true) (sl : List Nat) (hnd : sl.Nodup) (hb : backs ops = true)
    (hl : sl.length = ops.size) (hdl : depsIn ops sl.length = true) (hsz : (sl.all fun s => decide (s < a.tmps.size)) = true) (F : Nat → Value → World → Prop) (hF : ∀ i v W W', F i v W → Below W.heap.size W W' → F i v W') (hstep : Monos P Q a sl w F 0 ops.toList)
    (hend : ∀ u W, Below w.heap.size w W → (∀ i s, sl[i]? = some s → F i (u s) W) → Q .normal (puts a sl u) W) : (Code.region id ops true).wp P Q a w := by
  refine region_inv hm sl hnd hb (MonoI w sl F) ⟨Below.drew (Below.refl _ _), fun _ _ _ h => by cases h⟩ (Monos.steps hnd (fun s hs => of_decide_eq_true (List.all_eq_true.1 hsz s hs)) hF _ _ (fun o ho k hk => of_decide_eq_true (List.all_eq_true.1 (List.all_eq_true.1 hdl o ho) k hk)) hstep) fun d u W hI hall => hend u W hI.bel fun i s hs => hI.val i s hs (hall i ?_)
  rw [← hl]
  exact (List.getElem?_eq_some_iff.1 hs).1
end Go.Proofs.Ytpngbfmbjldieaa.Rg
