/-
  A REGION THAT DRAWS ITS ORDER, WITH GUARDED OPERATIONS, IN WHICH WHAT HAS COME UP STAYS: a fact for each operation in place of an order; which operations are wanted is told ahead ('wt'), out of what the facts say of the guards.
-/
import Derived.Test.YtpngbfmbjldieaaRegMono
set_option linter.unusedVariables false
namespace Go.Proofs.Ytpngbfmbjldieaa.Rg
open Go Go.RowKit

/-- what an operation owes, guarded or not -/
def StepG (P : Program) (Q : Exit → Act → World → Prop) (ops : Array Oper) (a : Act) (slots : List Nat) (I : (Nat → Bool) → (Nat → Value) → World → Prop) (i : Nat) (o : Oper) : Prop :=
  (o.dst.all fun s => slots.contains s) = true ∧ ∀ d u w, I d u w → d i = false → (∀ k ∈ deps o, d k = true) → ∀ K : Act → World → Prop, (∀ v w', I (upd d i) (updv u o.dst v) w' → K ((puts a slots u).put o.dst v) w') →
    if Region.wanted o (yielded ops (puts a slots u).tmps) = true then Oper.wp P o (puts a slots u) w K Q else K ((puts a slots u).put o.dst undef) w
def StepsG (P : Program) (Q : Exit → Act → World → Prop) (ops : Array Oper) (a : Act) (slots : List Nat) (I : (Nat → Bool) → (Nat → Value) → World → Prop) : Nat → List Oper → Prop
  | _, [] => True
  | i, o :: os => StepG P Q ops a slots I i o ∧ StepsG P Q ops a slots I (i + 1) os
theorem StepsG.at {P : Program} {Q : Exit → Act → World → Prop} {ops : Array Oper} {a : Act} {slots : List Nat} {I : (Nat → Bool) → (Nat → Value) → World → Prop} : ∀ (os : List Oper) (n : Nat), StepsG P Q ops a slots I n os → ∀ i o, os[i]? = some o → StepG P Q ops a slots I (n + i) o
  | [], _, _, i, o, h => by simp at h
  | o :: os, n, hs, 0, o', h => by simp at h; subst h; exact hs.1
  | o :: os, n, hs, i + 1, o', h => by
    have := StepsG.at os (n + 1) hs.2 i o' (by simpa using h)
    rwa [show n + (i + 1) = n + 1 + i by omega]
theorem any_invG {P : Program} {ops : Array Oper} {Q : Exit → Act → World → Prop} (a : Act) (slots : List Nat) (hnd : slots.Nodup) (hb : backs ops = true) (I : (Nat → Bool) → (Nat → Value) → World → Prop)
    (hstep : StepsG P Q ops a slots I 0 ops.toList) (hend : ∀ d u w, I d u w → (∀ i, i < ops.size → d i = true) → Q .normal (puts a slots u) w) :
    ∀ (fuel : Nat) (l : Array Bool) (u : Nat → Value) (w : World), l.size = ops.size → l.toList.count false ≤ fuel → I (fun i => l.getD i false) u w → wpAny P .any ops Q fuel l (puts a slots u) w := by
  intro fuel
  induction fuel with
  | zero =>
    intro l u w hl hc hI
    have hall : ∀ i, i < ops.size → l.getD i false = true := fun i hi => by
      cases hd : l.getD i false with
      | true => rfl
      | false =>
        have hm : false ∈ l.toList := by
          have e : l[i]'(by omega) = false := by rw [← hd]; simp [Array.getD, hl, hi]
          rw [← e]; simp
        have := List.count_pos_iff.2 hm
        omega
    refine ⟨?_, hend _ _ _ hI hall⟩
    rw [List.eq_nil_iff_forall_not_mem]
    intro i hi
    obtain ⟨o, ho, h1, _⟩ := (mem_ready hl).1 hi
    rw [hall i (Array.getElem?_eq_some_iff.1 ho).1] at h1
    cases h1
  | succ fuel ih =>
    intro l u w hl hc hI
    refine ⟨fun h => hend _ _ _ hI (ready_nil hl hb h), fun i hi => ?_⟩
    obtain ⟨o, ho, h1, h2⟩ := (mem_ready hl).1 hi
    have hi' : i < ops.size := (Array.getElem?_eq_some_iff.1 ho).1
    obtain ⟨hs, hst⟩ := StepsG.at ops.toList 0 hstep i o (by simpa using ho)
    rw [Nat.zero_add] at hst
    refine wpOp_step ho fun K hK => ?_
    refine hst _ u w hI h1 h2 K fun v w' hI' => hK _ _ ?_
    have e1 : upd (fun i => l.getD i false) i = fun k => (l.setIfInBounds i true).getD k false := by
      funext k
      by_cases hk : k = i
      · subst hk; rw [upd_self]; simp [Array.getD, hl, hi']
      · rw [upd_ne _ hk]
        simp only [Array.getD, Array.size_setIfInBounds]
        split
        · exact (Array.getElem_setIfInBounds_ne (by assumption) (fun q => hk q.symm)).symm
        · rfl
    rw [e1] at hI'
    have e2 : (puts a slots u).put o.dst v = puts a slots (updv u o.dst v) := by
      cases hd : o.dst with
      | none => rfl
      | some s => rw [hd] at hs; exact puts_put slots a u s v hnd (by simpa using hs)
    rw [e2]
    refine ih _ _ _ (by simp [hl]) ?_ hI'
    have hlt : i < l.toList.length := by simp [hl, hi']
    have e3 : l.toList[i]'hlt = false := by rw [← h1]; simp [Array.getD, hl, hi']
    have h4 : 0 < l.toList.count false := List.count_pos_iff.2 (by rw [← e3]; exact List.getElem_mem _)
    rw [Array.toList_setIfInBounds, List.count_set hlt, e3]
    show l.toList.count false - 1 + 0 ≤ fuel
    omega
theorem region_invG {P : Program} {id : Nat} {ops : Array Oper} {Q : Exit → Act → World → Prop} {a : Act} {w : World} (hm : P.follows .mixedOrders = true) (slots : List Nat) (hnd : slots.Nodup) (hb : backs ops = true)
    (I : (Nat → Bool) → (Nat → Value) → World → Prop) (h0 : I (fun _ => false) (fun s => a.tmps.getD s undef) w.drew) (hstep : StepsG P Q ops a slots I 0 ops.toList)
    (hend : ∀ d u w, I d u w → (∀ i, i < ops.size → d i = true) → Q .normal (puts a slots u) w) : (Code.region id ops true).wp P Q a w := by
  refine wp_region_any hm ?_
  have := any_invG a slots hnd hb I hstep hend ops.size (Array.replicate ops.size false) (fun s => a.tmps.getD s undef) w.drew (by simp) (by simp) (by
    have e : (fun i => (Array.replicate ops.size false).getD i false) = fun _ => false := by
      funext i
      simp [Array.getD]
    rw [e]; exact h0)
  rw [puts_self] at this
  exact this

/-- the truth that a value is -/
def truth : Value → Option Bool
  | .bool b => some b
  | _ => none
/-- whether an operation is wanted, out of what is told of its guard -/
def GuardOk (F : Nat → Value → World → Prop) (wt : Nat → Bool) (i : Nat) (o : Oper) : Prop :=
  match o.guard with
  | none => wt i = true
  | some (j, b) => j ∈ deps o ∧ ∃ y : Option Bool, (∀ v W, F j v W → truth v = y) ∧ wt i = (y == some b)
/-- what an operation does where it is wanted (a structure: what it holds is not to be run when a law is applied) -/
structure Body (P : Program) (Q : Exit → Act → World → Prop) (a : Act) (sl : List Nat) (w1 : World) (F : Nat → Value → World → Prop) (i : Nat) (o : Oper) : Prop where
  go : ∀ u W, Below w1.heap.size w1 W → Had a sl F o u W → ∀ K : Act → World → Prop, (∀ v w', Below W.heap.size W w' → F i v w' → K ((puts a sl u).put o.dst v) w') → Oper.wp P o (puts a sl u) W K Q
def MonoGAt (P : Program) (Q : Exit → Act → World → Prop) (a : Act) (sl : List Nat) (w1 : World) (F : Nat → Value → World → Prop) (wt : Nat → Bool) (i : Nat) (o : Oper) : Prop :=
  GuardOk F wt i o ∧ (wt i = true → Body P Q a sl w1 F i o) ∧ (wt i = false → ∀ W, F i undef W)
def MonosG (P : Program) (Q : Exit → Act → World → Prop) (a : Act) (sl : List Nat) (w1 : World) (F : Nat → Value → World → Prop) (wt : Nat → Bool) : Nat → List Oper → Prop
  | _, [] => True
  | i, o :: os => MonoGAt P Q a sl w1 F wt i o ∧ MonosG P Q a sl w1 F wt (i + 1) os
section
variable {P : Program} {Q : Exit → Act → World → Prop} {ops : Array Oper} {a : Act} {sl : List Nat} {w1 : World} {F : Nat → Value → World → Prop} {wt : Nat → Bool}
theorem Body.yields {i : Nat} {o : Oper} (h : ∀ u W, Below w1.heap.size w1 W → Had a sl F o u W → ∃ v w', (execOp (puts a sl u).eval o).run P W = .ok (.value v) w' ∧ Below W.heap.size W w' ∧ F i v w') : Body P Q a sl w1 F i o := by
  constructor
  intro u W hW hd K hK
  obtain ⟨v, w', h1, h2, h3⟩ := h u W hW hd
  exact wp_yields rfl v h1 (hK v w' h2 h3)
theorem Body.calls {i : Nat} {o : Oper} (h : ∀ u W, Below w1.heap.size w1 W → Had a sl F o u W → ∃ f args, (execOp (puts a sl u).eval o).run P W = .ok (.enter f args) W ∧ Calls P f args W fun e w' => (∃ v, e = .returned v ∧ F i v w') ∧ Below W.heap.size W w') : Body P Q a sl w1 F i o := by
  constructor
  intro u W hW hd K hK
  obtain ⟨f, args, h1, h2⟩ := h u W hW hd
  unfold Oper.wp
  rw [h1]
  show Calls P f args W _
  refine h2.mono ?_
  rintro e w' ⟨⟨v, rfl, h3⟩, h4⟩
  exact hK v w' h4 h3
theorem MonoGAt.plain {i : Nat} {o : Oper} (hg : o.guard = none) (hw : wt i = true) (h : Body P Q a sl w1 F i o) : MonoGAt P Q a sl w1 F wt i o :=
  ⟨by unfold GuardOk; rw [hg]; exact hw, fun _ => h, fun e => by rw [hw] at e; cases e⟩
theorem MonoGAt.held {i j : Nat} {b : Bool} {o : Oper} (hg : o.guard = some (j, b)) (hj : j ∈ deps o) (y : Option Bool) (hy : ∀ v W, F j v W → truth v = y) (hw : wt i = (y == some b)) (h : wt i = true → Body P Q a sl w1 F i o) (hn : wt i = false → ∀ W, F i undef W) : MonoGAt P Q a sl w1 F wt i o :=
  ⟨by unfold GuardOk; rw [hg]; exact ⟨hj, y, hy, hw⟩, h, hn⟩
theorem yielded_is (hd : ops.toList.map (·.dst) = sl.map some) (hsz : ∀ s ∈ sl, s < a.tmps.size) (hnd : sl.Nodup) {u : Nat → Value} {j s : Nat} (hs : sl[j]? = some s) : yielded ops (puts a sl u).tmps j = truth (u s) := by
  have h1 : (ops[j]?).bind (·.dst) = some s := by
    have h := congrArg (fun l => l[j]?) hd
    simp only [List.getElem?_map, hs, Option.map_some] at h
    rw [← Array.getElem?_toList]
    cases ho : ops.toList[j]? with
    | none => rw [ho] at h; cases h
    | some o => rw [ho] at h; simpa using h
  have hm := List.mem_of_getElem? hs
  have h2 : (puts a sl u).tmps[s]? = some (u s) := by
    have he := eval_new (a := a) (u := u) hnd (List.contains_iff_mem.2 hm) (hsz s hm)
    have hlt : s < (puts a sl u).tmps.size := by rw [puts_size]; exact hsz s hm
    rw [Array.getElem?_eq_getElem hlt]
    have : (puts a sl u).tmps.getD s undef = u s := he
    simpa [Array.getD, hlt] using this
  unfold yielded
  rw [h1, Option.bind_some, h2]
  cases u s <;> rfl
theorem MonoGAt.stepG {i : Nat} {o : Oper} (hd : ops.toList.map (·.dst) = sl.map some) (ho : ops[i]? = some o) (hnd : sl.Nodup) (hsz : ∀ s ∈ sl, s < a.tmps.size) (hF : ∀ i v W W', F i v W → Below W.heap.size W W' → F i v W') (hdl : ∀ k ∈ deps o, k < sl.length) (h : MonoGAt P Q a sl w1 F wt i o) : StepG P Q ops a sl (MonoI w1 sl F) i o := by
  obtain ⟨hG, hB, hN⟩ := h
  obtain ⟨s, h2, h3⟩ : ∃ s, sl[i]? = some s ∧ o.dst = some s := by
    have h := congrArg (fun l => l[i]?) hd
    simp only [List.getElem?_map, Array.getElem?_toList, ho, Option.map_some] at h
    cases hs : sl[i]? with
    | none => rw [hs] at h; cases h
    | some s => rw [hs] at h; exact ⟨s, rfl, by simpa using h⟩
  refine ⟨?_, fun d u W hI hdi hdep K hK => ?_⟩
  · rw [h3]
    show sl.contains s = true
    exact List.contains_iff_mem.2 (List.mem_of_getElem? h2)
  · have hK2 : ∀ v w', Below W.heap.size W w' → F i v w' → K ((puts a sl u).put o.dst v) w' := fun v w' hb hv => hK v w' ⟨?_, fun j t hj hdj => ?_⟩
    have hwt : Region.wanted o (yielded ops (puts a sl u).tmps) = wt i := by
      unfold GuardOk at hG
      unfold Region.wanted
      cases hg : o.guard with
      | none => rw [hg] at hG; exact hG.symm
      | some p =>
        obtain ⟨j, b⟩ := p
        rw [hg] at hG
        obtain ⟨hj, y, hy, hw⟩ := hG
        obtain ⟨t, ht⟩ : ∃ t, sl[j]? = some t := ⟨_, List.getElem?_eq_getElem (hdl j hj)⟩
        show (yielded ops (puts a sl u).tmps j == some b) = wt i
        rw [yielded_is hd hsz hnd ht, hy _ _ (hI.val j t ht (hdep j hj)), hw]
    rw [hwt]
    cases hw : wt i with
    | true =>
      rw [if_pos rfl]
      exact (hB hw).go u W hI.bel (fun k t hk ht => ⟨eval_new hnd (List.contains_iff_mem.2 (List.mem_of_getElem? ht)) (hsz t (List.mem_of_getElem? ht)), hI.val k t ht (hdep k hk)⟩) K hK2
    | false =>
      rw [if_neg (by decide)]
      exact hK2 undef W (Below.refl _ _) (hN hw W)
    · exact ⟨hb.os.trans hI.bel.os, hb.tape.trans hI.bel.tape, hb.output.trans hI.bel.output, Nat.le_trans hI.bel.size hb.size, fun k hk => (hb.block k (Nat.lt_of_lt_of_le hk hI.bel.size)).trans (hI.bel.block k hk)⟩
    · by_cases hji : j = i
      · subst hji
        obtain rfl := Option.some.inj (h2.symm.trans hj)
        rw [h3, updv_self]
        exact hv
      · rw [upd_ne _ hji] at hdj
        have hne : t ≠ s := fun e => by
          subst e
          exact hji ((List.getElem?_inj (List.getElem?_eq_some_iff.1 hj).1 hnd).1 (hj.trans h2.symm))
        rw [h3, updv_ne _ _ hne]
        exact hF _ _ _ _ (hI.val j t hj hdj) hb
theorem MonosG.steps (hd : ops.toList.map (·.dst) = sl.map some) (hnd : sl.Nodup) (hsz : ∀ s ∈ sl, s < a.tmps.size) (hF : ∀ i v W W', F i v W → Below W.heap.size W W' → F i v W') : ∀ (os : List Oper) (n : Nat), (∀ k o, os[k]? = some o → ops[n + k]? = some o) → (∀ o ∈ os, ∀ k ∈ deps o, k < sl.length) → MonosG P Q a sl w1 F wt n os → StepsG P Q ops a sl (MonoI w1 sl F) n os
  | [], _, _, _, _ => trivial
  | o :: os, n, hat, hdl, h => ⟨h.1.stepG hd (by simpa using hat 0 o rfl) hnd hsz hF (hdl o (by simp)), MonosG.steps hd hnd hsz hF os (n + 1) (fun k q hk => by rw [show n + 1 + k = n + (k + 1) by omega]; exact hat (k + 1) q (by simpa using hk)) (fun q hq => hdl q (by simp [hq])) h.2⟩
end
/-- the region -/
theorem region_monoG {P : Program} {id : Nat} {ops : Array Oper} {Q : Exit → Act → World → Prop} {a : Act} {w : World} (hm : P.follows .mixedOrders = true) (sl : List Nat) (hnd : sl.Nodup) (hb : backs ops = true)
    (hd : ops.toList.map (·.dst) = sl.map some) (hdl : depsIn ops sl.length = true) (hsz : (sl.all fun s => decide (s < a.tmps.size)) = true) (F : Nat → Value → World → Prop) (hF : ∀ i v W W', F i v W → Below W.heap.size W W' → F i v W') (wt : Nat → Bool) (hstep : MonosG P Q a sl w F wt 0 ops.toList)
    (hend : ∀ u W, Below w.heap.size w W → (∀ i s, sl[i]? = some s → F i (u s) W) → Q .normal (puts a sl u) W) : (Code.region id ops true).wp P Q a w := by
  refine region_invG hm sl hnd hb (MonoI w sl F) ⟨Below.drew (Below.refl _ _), fun _ _ _ h => by cases h⟩ (MonosG.steps hd hnd (fun s hs => of_decide_eq_true (List.all_eq_true.1 hsz s hs)) hF _ _ (fun k o hk => by rw [Nat.zero_add, ← Array.getElem?_toList]; exact hk) (fun o ho k hk => of_decide_eq_true (List.all_eq_true.1 (List.all_eq_true.1 hdl o ho) k hk)) hstep) fun d u W hI hall => hend u W hI.bel fun i s hs => hI.val i s hs (hall i ?_)
  have h1 : ops.size = sl.length := by
    have := congrArg List.length hd
    simpa using this
  rw [h1]
  exact (List.getElem?_eq_some_iff.1 hs).1
end Go.Proofs.Ytpngbfmbjldieaa.Rg
