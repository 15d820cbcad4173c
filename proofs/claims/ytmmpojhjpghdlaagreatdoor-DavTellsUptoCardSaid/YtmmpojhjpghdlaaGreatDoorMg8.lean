import Derived.RegionTactic
import Derived.WalkKit
import Derived.Tactics2
import Derived.Below
import Derived.Test.YtmmpojhjpghdlaaGreatDoorMg3
import Derived.Test.YtmmpojhjpghdlaaGreatDoorMg4
import Derived.Laws.EntriesVeiled
import Derived.Shelf.GgClosure.Gives

/-
  A REGION THAT DRAWS ITS ORDER, BY AN INVARIANT: one proof for each operation in place of one for each order. The invariant speaks of what has come up (d), of the slots that the region writes (u), of the world.
-/
set_option linter.unusedVariables false
namespace Go.Proofs.YtmmpojhjpghdlaaGreatDoor.Rg
open Go

def upd (d : Nat → Bool) (i : Nat) : Nat → Bool := fun k => bif Nat.beq k i then true else d k
def updv (u : Nat → Value) (s : Option Nat) (v : Value) : Nat → Value := fun k => match s with | none => u k | some s => bif Nat.beq k s then v else u k
def puts (a : Act) (slots : List Nat) (u : Nat → Value) : Act := slots.foldl (fun a s => a.put (some s) (u s)) a

theorem upd_self (d : Nat → Bool) (i : Nat) : upd d i i = true := by unfold upd; rw [Nat.beq_refl]; rfl
theorem upd_ne (d : Nat → Bool) {i k : Nat} (h : k ≠ i) : upd d i k = d k := by
  unfold upd
  have : Nat.beq k i = false := by
    cases hb : Nat.beq k i with
    | false => rfl
    | true => exact absurd (Nat.eq_of_beq_eq_true hb) h
  rw [this]; rfl
theorem updv_self (u : Nat → Value) (s : Nat) (v : Value) : updv u (some s) v s = v := by show (bif Nat.beq s s then v else u s) = v; rw [Nat.beq_refl]; rfl
theorem updv_ne (u : Nat → Value) {s k : Nat} (v : Value) (h : k ≠ s) : updv u (some s) v k = u k := by
  show (bif Nat.beq k s then v else u k) = u k
  have : Nat.beq k s = false := by
    cases hb : Nat.beq k s with
    | false => rfl
    | true => exact absurd (Nat.eq_of_beq_eq_true hb) h
  rw [this]; rfl
theorem puts_congr (slots : List Nat) : ∀ (a : Act) (u u' : Nat → Value), (∀ s ∈ slots, u s = u' s) → puts a slots u = puts a slots u' := by
  induction slots with
  | nil => intro a u u' _; rfl
  | cons t ts ih =>
    intro a u u' h
    show puts (a.put (some t) (u t)) ts u = puts (a.put (some t) (u' t)) ts u'
    rw [h t (by simp)]
    exact ih _ _ _ fun s hs => h s (by simp [hs])
theorem put_comm (a : Act) {s t : Nat} (h : s ≠ t) (x y : Value) : (a.put (some s) x).put (some t) y = (a.put (some t) y).put (some s) x := by
  unfold Act.put
  simp only [Act.mk.injEq, and_true]
  exact Array.setIfInBounds_comm _ _ h
theorem put_put (a : Act) (s : Nat) (x y : Value) : (a.put (some s) x).put (some s) y = a.put (some s) y := by
  unfold Act.put
  simp
theorem puts_far (slots : List Nat) : ∀ (a : Act) (u : Nat → Value) (s : Nat) (v : Value), s ∉ slots → (puts a slots u).put (some s) v = puts (a.put (some s) v) slots u := by
  induction slots with
  | nil => intro a u s v _; rfl
  | cons t ts ih =>
    intro a u s v h
    show (puts (a.put (some t) (u t)) ts u).put (some s) v = puts ((a.put (some s) v).put (some t) (u t)) ts u
    rw [ih _ _ _ _ (fun q => h (by simp [q])), put_comm a (s := t) (t := s) (fun q => h (by simp [q]))]
theorem puts_put (slots : List Nat) : ∀ (a : Act) (u : Nat → Value) (s : Nat) (v : Value), slots.Nodup → s ∈ slots → (puts a slots u).put (some s) v = puts a slots (updv u (some s) v) := by
  induction slots with
  | nil => intro a u s v _ h; cases h
  | cons t ts ih =>
    intro a u s v hn h
    obtain ⟨h1, h2⟩ := List.nodup_cons.1 hn
    show (puts (a.put (some t) (u t)) ts u).put (some s) v = puts (a.put (some t) (updv u (some s) v t)) ts (updv u (some s) v)
    by_cases hs : s = t
    · subst hs
      rw [puts_far ts _ _ _ _ h1, put_put, updv_self]
      exact puts_congr ts _ _ _ fun k hk => (updv_ne u v (fun q => by subst q; exact h1 hk)).symm
    · rw [ih _ _ _ _ h2 (by simpa [hs] using h), updv_ne u v (fun q => hs q.symm)]
theorem put_self (a : Act) (s : Nat) : a.put (some s) (a.tmps.getD s undef) = a := by
  unfold Act.put
  obtain ⟨t, d⟩ := a
  simp only [Act.mk.injEq, and_true]
  apply Array.ext
  · simp
  · intro i h1 h2
    rw [Array.getElem_setIfInBounds]
    split
    · rename_i e; subst e; simp [Array.getD, h2]
    · rfl
theorem puts_self (slots : List Nat) : ∀ (a : Act), puts a slots (fun s => a.tmps.getD s undef) = a := by
  induction slots with
  | nil => intro a; rfl
  | cons t ts ih =>
    intro a
    show puts (a.put (some t) (a.tmps.getD t undef)) ts _ = a
    rw [put_self]; exact ih a

def deps (o : Oper) : List Nat := (o.after.toList.filter (Region.binds .any)).map (·.on)
def backs (ops : Array Oper) : Bool := (List.range ops.size).all fun i => ((ops[i]?).map fun o => (deps o).all fun k => decide (k < i)).getD true
/-- what an operation owes -/
def StepAt (P : Program) (Q : Exit → Act → World → Prop) (a : Act) (slots : List Nat) (I : (Nat → Bool) → (Nat → Value) → World → Prop) (i : Nat) (o : Oper) : Prop :=
  (o.guard = none ∧ (o.dst.all fun s => slots.contains s) = true) ∧ ∀ d u w, I d u w → d i = false → (∀ k ∈ deps o, d k = true) → ∀ K : Act → World → Prop, (∀ v w', I (upd d i) (updv u o.dst v) w' → K ((puts a slots u).put o.dst v) w') → Oper.wp P o (puts a slots u) w K Q
def Steps (P : Program) (Q : Exit → Act → World → Prop) (a : Act) (slots : List Nat) (I : (Nat → Bool) → (Nat → Value) → World → Prop) : Nat → List Oper → Prop
  | _, [] => True
  | i, o :: os => StepAt P Q a slots I i o ∧ Steps P Q a slots I (i + 1) os
theorem Steps.at {P : Program} {Q : Exit → Act → World → Prop} {a : Act} {slots : List Nat} {I : (Nat → Bool) → (Nat → Value) → World → Prop} : ∀ (os : List Oper) (n : Nat), Steps P Q a slots I n os → ∀ i o, os[i]? = some o → StepAt P Q a slots I (n + i) o
  | [], _, _, i, o, h => by simp at h
  | o :: os, n, hs, 0, o', h => by simp at h; subst h; exact hs.1
  | o :: os, n, hs, i + 1, o', h => by
    have := Steps.at os (n + 1) hs.2 i o' (by simpa using h)
    rwa [show n + (i + 1) = n + 1 + i by omega]
theorem mem_ready {ops : Array Oper} {l : Array Bool} {i : Nat} (hl : l.size = ops.size) : i ∈ Region.ready .any ops l ↔ ∃ o, ops[i]? = some o ∧ l.getD i false = false ∧ ∀ k ∈ deps o, l.getD k false = true := by
  unfold Region.ready deps
  rw [List.mem_filter, List.mem_range]
  constructor
  · rintro ⟨h1, h2⟩
    have ho : ops[i]? = some (ops[i]'h1) := Array.getElem?_eq_getElem h1
    rw [ho] at h2
    simp only [Bool.and_eq_true, Bool.not_eq_true', Option.map_some, Option.getD_some, Array.all_eq_true_iff_forall_mem, Bool.or_eq_true] at h2
    refine ⟨_, ho, by rw [← h2.1]; simp [Array.getD, hl, h1], fun k hk => ?_⟩
    obtain ⟨e, he, rfl⟩ := List.mem_map.1 hk
    obtain ⟨he1, he2⟩ := List.mem_filter.1 he
    rcases h2.2 e (by simpa using he1) with h | h
    · rw [he2] at h; cases h
    · exact h
  · rintro ⟨o, ho, h1, h2⟩
    have hi : i < ops.size := (Array.getElem?_eq_some_iff.1 ho).1
    refine ⟨hi, ?_⟩
    rw [ho]
    simp only [Bool.and_eq_true, Bool.not_eq_true', Option.map_some, Option.getD_some, Array.all_eq_true_iff_forall_mem, Bool.or_eq_true]
    refine ⟨by rw [← h1]; simp [Array.getD, hl, hi], fun e he => ?_⟩
    cases hb : Region.binds .any e with
    | false => exact .inl rfl
    | true => exact .inr (h2 _ (List.mem_map.2 ⟨e, List.mem_filter.2 ⟨by simpa using he, hb⟩, rfl⟩))
theorem ready_nil {ops : Array Oper} {l : Array Bool} (hl : l.size = ops.size) (hb : backs ops = true) (h : Region.ready .any ops l = []) : ∀ i, i < ops.size → l.getD i false = true := by
  intro i
  induction i using Nat.strongRecOn with
  | ind i ih =>
    intro hi
    cases hd : l.getD i false with
    | true => rfl
    | false =>
      have ho : ops[i]? = some (ops[i]'hi) := Array.getElem?_eq_getElem hi
      have h3 := List.all_eq_true.1 hb i (List.mem_range.2 hi)
      rw [ho] at h3
      simp only [Option.map_some, Option.getD_some] at h3
      have : i ∈ Region.ready .any ops l := (mem_ready hl).2 ⟨_, ho, hd, fun k hk => by
        have h4 := of_decide_eq_true (List.all_eq_true.1 h3 k hk)
        exact ih k h4 (by omega)⟩
      rw [h] at this; cases this
theorem any_inv {P : Program} {ops : Array Oper} {Q : Exit → Act → World → Prop} (a : Act) (slots : List Nat) (hnd : slots.Nodup) (hb : backs ops = true) (I : (Nat → Bool) → (Nat → Value) → World → Prop)
    (hstep : Steps P Q a slots I 0 ops.toList) (hend : ∀ d u w, I d u w → (∀ i, i < ops.size → d i = true) → Q .normal (puts a slots u) w) :
    ∀ (fuel : Nat) (l : Array Bool) (u : Nat → Value) (w : World), l.size = ops.size → l.toList.count false ≤ fuel → I (fun i => l.getD i false) u w → wpAny P .any ops Q fuel l (puts a slots u) w := by
  intro fuel
  induction fuel with
  | zero =>
    intro l u w hl hc hI
    have hall : ∀ i, i < ops.size → l.getD i false = true := fun i hi => by
      cases hd : l.getD i false with
      | true => rfl
      | false =>
        have hm : false ∈ l.toList := by
          have e : l[i]'(by omega) = false := by rw [← hd]; simp [Array.getD, hl, hi]
          rw [← e]; simp
        have := List.count_pos_iff.2 hm
        omega
    refine ⟨?_, hend _ _ _ hI hall⟩
    rw [List.eq_nil_iff_forall_not_mem]
    intro i hi
    obtain ⟨o, ho, h1, _⟩ := (mem_ready hl).1 hi
    rw [hall i (Array.getElem?_eq_some_iff.1 ho).1] at h1
    cases h1
  | succ fuel ih =>
    intro l u w hl hc hI
    refine ⟨fun h => hend _ _ _ hI (ready_nil hl hb h), fun i hi => ?_⟩
    obtain ⟨o, ho, h1, h2⟩ := (mem_ready hl).1 hi
    have hi' : i < ops.size := (Array.getElem?_eq_some_iff.1 ho).1
    obtain ⟨⟨hg, hs⟩, hst⟩ := Steps.at ops.toList 0 hstep i o (by simpa using ho)
    rw [Nat.zero_add] at hst
    refine wpOp_step ho fun K hK => ?_
    have hw : Region.wanted o (yielded ops (puts a slots u).tmps) = true := by simp [Region.wanted, hg]
    rw [if_pos hw]
    refine hst _ u w hI h1 h2 K fun v w' hI' => hK _ _ ?_
    have e1 : upd (fun i => l.getD i false) i = fun k => (l.setIfInBounds i true).getD k false := by
      funext k
      by_cases hk : k = i
      · subst hk; rw [upd_self]; simp [Array.getD, hl, hi']
      · rw [upd_ne _ hk]
        simp only [Array.getD, Array.size_setIfInBounds]
        split
        · exact (Array.getElem_setIfInBounds_ne (by assumption) (fun q => hk q.symm)).symm
        · rfl
    rw [e1] at hI'
    have e2 : (puts a slots u).put o.dst v = puts a slots (updv u o.dst v) := by
      cases hd : o.dst with
      | none => rfl
      | some s => rw [hd] at hs; exact puts_put slots a u s v hnd (by simpa using hs)
    rw [e2]
    refine ih _ _ _ (by simp [hl]) ?_ hI'
    have hlt : i < l.toList.length := by simp [hl, hi']
    have e3 : l.toList[i]'hlt = false := by rw [← h1]; simp [Array.getD, hl, hi']
    have h4 : 0 < l.toList.count false := List.count_pos_iff.2 (by rw [← e3]; exact List.getElem_mem _)
    rw [Array.toList_setIfInBounds, List.count_set hlt, e3]
    show l.toList.count false - 1 + 0 ≤ fuel
    omega
/-- a region that draws its order, by an invariant -/
theorem region_inv {P : Program} {id : Nat} {ops : Array Oper} {Q : Exit → Act → World → Prop} {a : Act} {w : World} (hm : P.follows .mixedOrders = true) (slots : List Nat) (hnd : slots.Nodup) (hb : backs ops = true)
    (I : (Nat → Bool) → (Nat → Value) → World → Prop) (h0 : I (fun _ => false) (fun s => a.tmps.getD s undef) w.drew) (hstep : Steps P Q a slots I 0 ops.toList)
    (hend : ∀ d u w, I d u w → (∀ i, i < ops.size → d i = true) → Q .normal (puts a slots u) w) : (Code.region id ops true).wp P Q a w := by
  refine wp_region_any hm ?_
  have := any_inv a slots hnd hb I hstep hend ops.size (Array.replicate ops.size false) (fun s => a.tmps.getD s undef) w.drew (by simp) (by simp) (by
    have e : (fun i => (Array.replicate ops.size false).getD i false) = fun _ => false := by
      funext i
      simp [Array.getD]
    rw [e]; exact h0)
  rw [puts_self] at this
  exact this
end Go.Proofs.YtmmpojhjpghdlaaGreatDoor.Rg

/-
  OPERATIONS OF A REGION WHOSE FRAME IS 'puts' (RegInv): each run at a frame that is not written out.
-/
set_option linter.unusedVariables false
namespace Go.Proofs.YtmmpojhjpghdlaaGreatDoor.Rg
open Go

theorem puts_tmps (slots : List Nat) : ∀ (a : Act) (u : Nat → Value) (t : Nat), t ∉ slots → (puts a slots u).tmps.getD t undef = a.tmps.getD t undef := by
  induction slots with
  | nil => intro a u t _; rfl
  | cons s ts ih =>
    intro a u t h
    show (puts (a.put (some s) (u s)) ts u).tmps.getD t undef = _
    rw [ih _ _ _ (fun q => h (by simp [q]))]
    have hne : t ≠ s := fun q => h (by simp [q])
    show (a.tmps.setIfInBounds s (u s)).getD t undef = a.tmps.getD t undef
    simp only [Array.getD, Array.size_setIfInBounds]
    split
    · exact Array.getElem_setIfInBounds_ne (by assumption) (fun q => hne q.symm)
    · rfl
theorem puts_size (slots : List Nat) : ∀ (a : Act) (u : Nat → Value), (puts a slots u).tmps.size = a.tmps.size := by
  induction slots with
  | nil => intro a u; rfl
  | cons s ts ih =>
    intro a u
    show (puts (a.put (some s) (u s)) ts u).tmps.size = _
    rw [ih]
    exact Array.size_setIfInBounds
/-- a slot that the region does not write -/
theorem eval_old {a : Act} {slots : List Nat} {u : Nat → Value} {t : Nat} {v : Value} (h : slots.contains t = false) (hv : a.eval (.tmp t) = v) : (puts a slots u).eval (.tmp t) = v := by
  rw [← hv]
  exact puts_tmps slots a u t (by simpa using h)
/-- a slot that it writes -/
theorem eval_new {a : Act} {slots : List Nat} {u : Nat → Value} {t : Nat} (hn : slots.Nodup) (h : slots.contains t = true) (ht : t < a.tmps.size) : (puts a slots u).eval (.tmp t) = u t := by
  have h1 : (puts a slots u) = (puts a slots u).put (some t) (u t) := by
    rw [puts_put slots a u t (u t) hn (by simpa using h)]
    refine puts_congr slots a _ _ fun s _ => ?_
    by_cases hs : s = t
    · subst hs; rw [updv_self]
    · rw [updv_ne _ _ hs]
  rw [h1]
  show ((puts a slots u).tmps.setIfInBounds t (u t)).getD t undef = u t
  simp [Array.getD, puts_size, ht]
/-- an operation that yields a value -/
theorem wp_yields {P : Program} {o : Oper} {a : Act} {w w' : World} {K : Act → World → Prop} {Q : Exit → Act → World → Prop} {ds : Option Nat} (hds : o.dst = ds) (v : Value) (hr : (execOp a.eval o).run P w = .ok (.value v) w') (hk : K (a.put ds v) w') : Oper.wp P o a w K Q := by
  unfold Oper.wp
  rw [hr]
  rw [← hds] at hk
  exact hk
/-- an operation that yields nothing -/
theorem wp_skips {P : Program} {o : Oper} {a : Act} {w w' : World} {K : Act → World → Prop} {Q : Exit → Act → World → Prop} {ds : Option Nat} (hds : o.dst = ds) (hr : (execOp a.eval o).run P w = .ok .skip w') (hk : K (a.put ds undef) w') : Oper.wp P o a w K Q := by
  unfold Oper.wp
  rw [hr]
  rw [← hds] at hk
  exact hk
end Go.Proofs.YtmmpojhjpghdlaaGreatDoor.Rg

/-
  A REGION THAT DRAWS ITS ORDER AND IN WHICH WHAT HAS COME UP STAYS (every operation leaves what there is): a fact for each operation in place of an order; a fact F i may hang on the world, if it is kept by worlds that leave what there is.
-/
set_option linter.unusedVariables false
namespace Go.Proofs.YtmmpojhjpghdlaaGreatDoor.Rg
open Go Go.RowKit

section
variable {P : Program} {Q : Exit → Act → World → Prop} {a : Act} {sl : List Nat} {w1 : World} {F : Nat → Value → World → Prop}
structure MonoI (w1 : World) (sl : List Nat) (F : Nat → Value → World → Prop) (d : Nat → Bool) (u : Nat → Value) (W : World) : Prop where
  bel : Below w1.heap.size w1 W
  val : ∀ i s, sl[i]? = some s → d i = true → F i (u s) W
/-- what is known ahead of an operation: of those on which it waits -/
def Had (a : Act) (sl : List Nat) (F : Nat → Value → World → Prop) (o : Oper) (u : Nat → Value) (W : World) : Prop :=
  ∀ k s, k ∈ deps o → sl[k]? = some s → (puts a sl u).eval (.tmp s) = u s ∧ F k (u s) W
def MonoAt (P : Program) (Q : Exit → Act → World → Prop) (a : Act) (sl : List Nat) (w1 : World) (F : Nat → Value → World → Prop) (i : Nat) (o : Oper) : Prop :=
  o.guard = none ∧ (∃ s, sl[i]? = some s ∧ o.dst = some s) ∧ ∀ u W, Below w1.heap.size w1 W → Had a sl F o u W →
    ∀ K : Act → World → Prop, (∀ v w', Below W.heap.size W w' → F i v w' → K ((puts a sl u).put o.dst v) w') → Oper.wp P o (puts a sl u) W K Q
def Monos (P : Program) (Q : Exit → Act → World → Prop) (a : Act) (sl : List Nat) (w1 : World) (F : Nat → Value → World → Prop) : Nat → List Oper → Prop
  | _, [] => True
  | i, o :: os => MonoAt P Q a sl w1 F i o ∧ Monos P Q a sl w1 F (i + 1) os
/-- an operation that yields a value -/
theorem MonoAt.yields {i s : Nat} {o : Oper} (hg : o.guard = none) (hs : sl[i]? = some s) (hds : o.dst = some s)
    (h : ∀ u W, Below w1.heap.size w1 W → Had a sl F o u W → ∃ v w', (execOp (puts a sl u).eval o).run P W = .ok (.value v) w' ∧ Below W.heap.size W w' ∧ F i v w') : MonoAt P Q a sl w1 F i o := by
  refine ⟨hg, ⟨s, hs, hds⟩, fun u W hW hd K hK => ?_⟩
  obtain ⟨v, w', h1, h2, h3⟩ := h u W hW hd
  exact wp_yields rfl v h1 (hK v w' h2 h3)
/-- an operation that calls -/
theorem MonoAt.calls {i s : Nat} {o : Oper} (hg : o.guard = none) (hs : sl[i]? = some s) (hds : o.dst = some s)
    (h : ∀ u W, Below w1.heap.size w1 W → Had a sl F o u W → ∃ f args, (execOp (puts a sl u).eval o).run P W = .ok (.enter f args) W ∧ Calls P f args W fun e w' => (∃ v, e = .returned v ∧ F i v w') ∧ Below W.heap.size W w') : MonoAt P Q a sl w1 F i o := by
  refine ⟨hg, ⟨s, hs, hds⟩, fun u W hW hd K hK => ?_⟩
  obtain ⟨f, args, h1, h2⟩ := h u W hW hd
  unfold Oper.wp
  rw [h1]
  show Calls P f args W _
  refine h2.mono ?_
  rintro e w' ⟨⟨v, rfl, h3⟩, h4⟩
  exact hK v w' h4 h3
theorem MonoAt.stepAt {i : Nat} {o : Oper} (hnd : sl.Nodup) (hsz : ∀ s ∈ sl, s < a.tmps.size) (hF : ∀ i v W W', F i v W → Below W.heap.size W W' → F i v W') (hdl : ∀ k ∈ deps o, k < sl.length) (h : MonoAt P Q a sl w1 F i o) : StepAt P Q a sl (MonoI w1 sl F) i o := by
  obtain ⟨h1, ⟨s, h2, h3⟩, h4⟩ := h
  refine ⟨⟨h1, ?_⟩, fun d u W hI hd hdep K hK => h4 u W hI.bel (fun k t hk ht => ?_) K fun v w' hb hv => hK v w' ⟨?_, fun j t hj hdj => ?_⟩⟩
  · rw [h3]
    show sl.contains s = true
    exact List.contains_iff_mem.2 (List.mem_of_getElem? h2)
  · have hm := List.mem_of_getElem? ht
    exact ⟨eval_new hnd (List.contains_iff_mem.2 hm) (hsz t hm), hI.val k t ht (hdep k hk)⟩
  · exact ⟨hb.os.trans hI.bel.os, hb.tape.trans hI.bel.tape, hb.output.trans hI.bel.output, Nat.le_trans hI.bel.size hb.size, fun k hk => (hb.block k (Nat.lt_of_lt_of_le hk hI.bel.size)).trans (hI.bel.block k hk)⟩
  · by_cases hji : j = i
    · subst hji
      obtain rfl := Option.some.inj (h2.symm.trans hj)
      rw [h3, updv_self]
      exact hv
    · rw [upd_ne _ hji] at hdj
      have hne : t ≠ s := fun e => by
        subst e
        exact hji ((List.getElem?_inj (List.getElem?_eq_some_iff.1 hj).1 hnd).1 (hj.trans h2.symm))
      rw [h3, updv_ne _ _ hne]
      exact hF _ _ _ _ (hI.val j t hj hdj) hb
theorem Monos.steps (hnd : sl.Nodup) (hsz : ∀ s ∈ sl, s < a.tmps.size) (hF : ∀ i v W W', F i v W → Below W.heap.size W W' → F i v W') : ∀ (os : List Oper) (n : Nat), (∀ o ∈ os, ∀ k ∈ deps o, k < sl.length) → Monos P Q a sl w1 F n os → Steps P Q a sl (MonoI w1 sl F) n os
  | [], _, _, _ => trivial
  | o :: os, n, hdl, h => ⟨h.1.stepAt hnd hsz hF (hdl o (by simp)), Monos.steps hnd hsz hF os (n + 1) (fun q hq => hdl q (by simp [hq])) h.2⟩
end
def depsIn (ops : Array Oper) (n : Nat) : Bool := ops.toList.all fun o => (deps o).all fun k => decide (k < n)
/-- the region -/
theorem region_mono {P : Program} {id : Nat} {ops : Array Oper} {Q : Exit → Act → World → Prop} {a : Act} {w : World} (hm : P.follows .mixedOrders = true) (sl : List Nat) (hnd : sl.Nodup) (hb : backs ops = true)
    (hl : sl.length = ops.size) (hdl : depsIn ops sl.length = true) (hsz : (sl.all fun s => decide (s < a.tmps.size)) = true) (F : Nat → Value → World → Prop) (hF : ∀ i v W W', F i v W → Below W.heap.size W W' → F i v W') (hstep : Monos P Q a sl w F 0 ops.toList)
    (hend : ∀ u W, Below w.heap.size w W → (∀ i s, sl[i]? = some s → F i (u s) W) → Q .normal (puts a sl u) W) : (Code.region id ops true).wp P Q a w := by
  refine region_inv hm sl hnd hb (MonoI w sl F) ⟨Below.drew (Below.refl _ _), fun _ _ _ h => by cases h⟩ (Monos.steps hnd (fun s hs => of_decide_eq_true (List.all_eq_true.1 hsz s hs)) hF _ _ (fun o ho k hk => of_decide_eq_true (List.all_eq_true.1 (List.all_eq_true.1 hdl o ho) k hk)) hstep) fun d u W hI hall => hend u W hI.bel fun i s hs => hI.val i s hs (hall i ?_)
  rw [← hl]
  exact (List.getElem?_eq_some_iff.1 hs).1
end Go.Proofs.YtmmpojhjpghdlaaGreatDoor.Rg

/-
  MAKERS OF DOCUMENTS (function values that lay pieces behind a row): what they are ('Mk'), what stays ('KeptP': all but rows of pieces), rows of them ('PartsAt'); the walks of the four closures and of around, chars, when, dav, card.
-/
set_option linter.unusedVariables false
namespace Go.Proofs.YtmmpojhjpghdlaaGreatDoor.Dv
open Go.Lib Go.RowKit
open Xm (Row Pc sv PsOwn PcsAt append_piece below_then sv_some left_of)

/-- what isn't a row of pieces is left -/
structure KeptP (cc : Nat) (w w' : World) : Prop where
  os : w'.os = w.os
  tape : w'.tape = w.tape
  output : w'.output = w.output
  size : w.heap.size ≤ w'.heap.size
  low : ∀ k, k < cc → k < w.heap.size → w'.heap[k]? = w.heap[k]?
  block : ∀ (k : Nat) (cs : Array Value) (t : TypeId) (fr : Nat × Nat), w.heap[k]? = some (.cells cs t fr) → t ≠ 75 → w'.heap[k]? = some (.cells cs t fr)
variable {cc : Nat}
theorem KeptP.refl (w : World) : KeptP cc w w := ⟨rfl, rfl, rfl, Nat.le_refl _, fun _ _ _ => rfl, fun _ _ _ _ h _ => h⟩
theorem KeptP.trans {a b c : World} (h : KeptP cc a b) (k : KeptP cc b c) : KeptP cc a c :=
  ⟨k.os.trans h.os, k.tape.trans h.tape, k.output.trans h.output, Nat.le_trans h.size k.size, fun i h1 h2 => (k.low i h1 (Nat.lt_of_lt_of_le h2 h.size)).trans (h.low i h1 h2), fun i cs t fr hi ht => k.block i cs t fr (h.block i cs t fr hi ht) ht⟩
theorem KeptP.of_below {w w' : World} (h : Below w.heap.size w w') : KeptP cc w w' :=
  ⟨h.os, h.tape, h.output, h.size, fun i _ h2 => h.block i h2, fun i cs t fr hi _ => (h.block i (Array.getElem?_eq_some_iff.1 hi).1).trans hi⟩
theorem KeptP.of_grown {w w' : World} {B : Nat} {v : Value} {ps : List Pc} (hown : PsOwn B v ps w) (hcB : cc ≤ B) (h : w.grownBy w' v.ownBlock) : KeptP cc w w' := by
  refine ⟨h.os, h.tape, h.output, h.size, fun i h1 h2 => h.block i h2 (fun e => by have := (hown.lt i e.symm).1; omega), fun i cs t fr hi ht => (h.block i (Array.getElem?_eq_some_iff.1 hi).1 (fun e => ?_)).trans hi⟩
  obtain ⟨_, h2 | ⟨g, cap, cur, e1, e2, e3, _⟩⟩ := hown
  · rw [h2.1] at e; cases e
  · rw [e1] at e
    have : i = g := by simpa [Value.ownBlock] using e
    subst this
    rw [hi] at e3
    injection e3 with e3
    injection e3 with _ e3
    exact ht e3
/-- one block's content -/
theorem KeptP.at {w w' : World} (h : KeptP cc w w') {k : Nat} {cs : Array Value} {t : TypeId} {fr : Nat × Nat} (hk : w.heap[k]? = some (.cells cs t fr)) (ht : t ≠ 75) : w'.heap[k]? = some (.cells cs t fr) := h.block k cs t fr hk ht

abbrev EntersF (f : FuncId) : Prop := ∀ (args : Array Value) (w : World), (callFunc f args).run Tryz.prog w = .ok (.enter f args) w
/-- a function value that lays these pieces behind whatever row of the call's own -/
def Mk (cc : Nat) (w : World) (v : Value) (ps : List Pc) : Prop :=
  ∃ (f : FuncId) (caps : Array Value), v = .func (.func f) #[] caps ∧ EntersF f ∧
    ∀ (W : World) (B : Nat) (rv : Value) (qs : List Pc), KeptP cc w W → PsOwn B rv qs W → B ≤ W.heap.size → cc ≤ B → qs.length + ps.length ≤ 1099511627776 →
      Calls Tryz.prog f (#[rv] ++ caps) W fun e W' => ∃ rv', e = .returned rv' ∧ PsOwn B rv' (qs ++ ps) W' ∧ Below B W W' ∧ KeptP cc W W'
theorem Mk.kept {w w' : World} {v : Value} {ps : List Pc} (h : Mk cc w v ps) (hk : KeptP cc w w') : Mk cc w' v ps := by
  obtain ⟨f, caps, h1, h2, h3⟩ := h
  exact ⟨f, caps, h1, h2, fun W B rv qs hW => h3 W B rv qs (hk.trans hW)⟩
theorem Mk.below {w w' : World} {v : Value} {ps : List Pc} (h : Mk cc w v ps) (hb : Below w.heap.size w w') : Mk cc w' v ps := h.kept (.of_below hb)
/-- a row of them -/
def PartsAt (cc : Nat) (w : World) (v : Value) (pss : List (List Pc)) : Prop :=
  (pss = [] ∧ v = .slice none 0 0) ∨
  ∃ (b : Nat) (cs : Array Value), v = .slice (some ⟨b, 0, none⟩) pss.length pss.length ∧ w.heap[b]? = some (.cells cs 86 (0, 0)) ∧ pss.length ≤ 100 ∧
    ∀ (j : Nat) (ps : List Pc), pss[j]? = some ps → ∃ fv, cs[j]? = some fv ∧ Mk cc w fv ps
theorem PartsAt.kept {w w' : World} {v : Value} {pss : List (List Pc)} (h : PartsAt cc w v pss) (hk : KeptP cc w w') : PartsAt cc w' v pss := by
  rcases h with h | ⟨b, cs, h1, h2, h3, h4⟩
  · exact .inl h
  · exact .inr ⟨b, cs, h1, hk.at h2 (by decide), h3, fun j ps hj => by
      obtain ⟨fv, q1, q2⟩ := h4 j ps hj
      exact ⟨fv, q1, q2.kept hk⟩⟩
theorem PartsAt.below {w w' : World} {v : Value} {pss : List (List Pc)} (h : PartsAt cc w v pss) (hb : Below w.heap.size w w') : PartsAt cc w' v pss := h.kept (.of_below hb)
theorem PartsAt.form {w : World} {v : Value} {pss : List (List Pc)} (h : PartsAt cc w v pss) : ∃ A, v = .slice A pss.length pss.length := by
  rcases h with ⟨rfl, h⟩ | ⟨b, cs, h, _⟩
  · exact ⟨none, h⟩
  · exact ⟨_, h⟩
theorem parts_len {w : World} {v : Value} {pss : List (List Pc)} (h : PartsAt cc w v pss) : pss.length ≤ 100 := by
  rcases h with ⟨rfl, h⟩ | ⟨b, cs, _, _, h, _⟩
  · exact Nat.zero_le _
  · exact h
theorem sv_zero : sv ([] : Row) = .string ⟨#[]⟩ := rfl

/-! ### names -/
set_option maxRecDepth 100000 in
theorem dav_any (s : ByteArray) (w : World) : Calls Tryz.prog 40 #[.string s] w fun e w' => e = .returned (.agg #[.int .i64 1, .string s]) ∧ Below w.heap.size w w' := by
  go_enter Tryz.func40, Tryz.ntmps40
  go_wp2
  exact bodyPost_ret (v := .agg #[.int .i64 1, .string s]) (by simp [results, Tryz.results40, go_sem]) rfl ⟨rfl, by repeat first | exact Below.refl _ _ | refine Below.setCell ?_ (by simp) _ | refine Below.alloc ?_ (by simp) _⟩
set_option maxRecDepth 100000 in
theorem card_any (s : ByteArray) (w : World) : Calls Tryz.prog 43 #[.string s] w fun e w' => e = .returned (.agg #[.int .i64 2, .string s]) ∧ Below w.heap.size w w' := by
  go_enter Tryz.func43, Tryz.ntmps43
  go_wp2
  exact bodyPost_ret (v := .agg #[.int .i64 2, .string s]) (by simp [results, Tryz.results43, go_sem]) rfl ⟨rfl, by repeat first | exact Below.refl _ _ | refine Below.setCell ?_ (by simp) _ | refine Below.alloc ?_ (by simp) _⟩

/-! ### chars -/
theorem below_two (w : World) (o1 o2 : Obj) : Below w.heap.size w ((w.alloc o1).alloc o2) := ((Below.refl _ _).alloc (Nat.le_refl _) _).alloc (by simp) _
set_option maxHeartbeats 2000000 in
set_option maxRecDepth 100000 in
theorem chars_do (t : ByteArray) (g : Nat) (W : World) (B : Nat) (rv : Value) (qs : List Pc) (hg : W.heap[g]? = some (.cells #[.string t] 9 (0, 0))) (hown : PsOwn B rv qs W) (hB : B ≤ W.heap.size) (hcB : cc ≤ B) (hl : qs.length ≤ 1099511627776) :
    Calls Tryz.prog 90 #[rv, .pointer (some ⟨g, 0, none⟩)] W fun e W' => ∃ rv', e = .returned rv' ∧ PsOwn B rv' (qs ++ [⟨3, 0, [], t.data.toList⟩]) W' ∧ Below B W W' ∧ KeptP cc W W' := by
  have hc : W.cell? ⟨g, 0, none⟩ = some (.string t) := (Lib.cell_of_heap hg 0).trans rfl
  have ht : sv t.data.toList = .string t := Xm.sv_data t
  have hown' := Lib.hid hown
  clear hown
  go_enter Tryz.func90, Tryz.ntmps90
  go_wp2_with (at_builtin; refine append_piece ⟨3, 0, [], t.data.toList⟩ ⟨#[]⟩ t 3 0 rfl ht rfl rfl rfl _ _ rfl B rv qs _ rfl rfl rfl hown'.out hl hB ?_)
  intro v7 w7 hown7 hg7
  have h1 : Below B W w7 := left_of hown'.out hg7 B W (Below.refl _ _) (Nat.le_refl _) hB
  have h2 : KeptP cc W w7 := (KeptP.of_below ((Below.refl _ _).alloc (Nat.le_refl _) _)).trans (KeptP.of_grown (hown'.out.kept ((Below.refl _ _).alloc (Nat.le_refl _) _)) hcB hg7)
  have hfin := Lib.hid (And.intro hown7 (And.intro h1 h2))
  clear h1 h2 hown7 hg7
  go_wp2
  go_ret
  exact ⟨_, rfl, hfin.out⟩
set_option maxRecDepth 100000 in
theorem chars_any (t : ByteArray) (w : World) : Calls Tryz.prog 59 #[.string t] w fun e w' => (∃ v, e = .returned v ∧ Mk cc w' v [⟨3, 0, [], t.data.toList⟩]) ∧ Below w.heap.size w w' := by
  go_enter Tryz.func59, Tryz.ntmps59
  go_wp2
  go_ret
  refine ⟨⟨_, rfl, 90, #[.pointer (some ⟨w.heap.size, 0, none⟩)], rfl, enters_of Tryz.func90 (by kernel_rfl) rfl, fun W B rv qs hW hown hB hcB hl => ?_⟩, (Below.refl _ _).alloc (Nat.le_refl _) _⟩
  exact chars_do t w.heap.size W B rv qs (hW.at (heap_alloc_new w _) (by decide)) hown hB hcB (by omega)

/-! ### when -/
set_option maxHeartbeats 2000000 in
set_option maxRecDepth 100000 in
theorem when_do (b : Bool) (pv : Value) (ps : List Pc) (w : World) (hp : Mk cc w pv ps) (g1 g2 : Nat) (W : World) (hk : KeptP cc w W) (B : Nat) (rv : Value) (qs : List Pc) (hg1 : W.heap[g1]? = some (.cells #[.bool b] 4 (0, 0))) (hg2 : W.heap[g2]? = some (.cells #[pv] 86 (0, 0))) (hown : PsOwn B rv qs W) (hB : B ≤ W.heap.size) (hcB : cc ≤ B) (hl : b = true → qs.length + ps.length ≤ 1099511627776) :
    Calls Tryz.prog 88 #[rv, .pointer (some ⟨g1, 0, none⟩), .pointer (some ⟨g2, 0, none⟩)] W fun e W' => ∃ rv', e = .returned rv' ∧ PsOwn B rv' (qs ++ if b = true then ps else []) W' ∧ Below B W W' ∧ KeptP cc W W' := by
  have hc1 : W.cell? ⟨g1, 0, none⟩ = some (.bool b) := (Lib.cell_of_heap hg1 0).trans rfl
  have hc2 : W.cell? ⟨g2, 0, none⟩ = some pv := (Lib.cell_of_heap hg2 0).trans rfl
  obtain ⟨ao, c, rfl⟩ := Xm.ownsRow_form hown
  obtain ⟨f, caps, rfl, hf, hdo⟩ := hp
  have hd := fun h => hdo W B _ qs hk hown hB hcB h
  have hown' := Lib.hid hown
  clear hown hdo
  cases b
  · go_enter Tryz.func88, Tryz.ntmps88
    go_wp2
    go_ret
    exact ⟨_, rfl, by simpa using hown'.out, Below.refl _ _, KeptP.refl _⟩
  · have hd' := hd (hl rfl)
    clear hd
    go_enter Tryz.func88, Tryz.ntmps88
    go_wp2_with (go_at_fn f; refine hd'.mono ?_; rintro e w3 ⟨rv', rfl, h3⟩)
    have hfin := Lib.hid h3
    clear h3
    go_ret
    exact ⟨_, rfl, hfin.out⟩
set_option maxRecDepth 100000 in
theorem when_any (b : Bool) (pv : Value) (ps : List Pc) (w : World) (hp : Mk cc w pv ps) :
    Calls Tryz.prog 57 #[.bool b, pv] w fun e w' => (∃ v, e = .returned v ∧ Mk cc w' v (if b = true then ps else [])) ∧ Below w.heap.size w w' := by
  have hp' := Lib.hid hp
  obtain ⟨f, caps, rfl, hf0, hd0⟩ := hp
  obtain ⟨R, hR⟩ : ∃ R, (if b = true then ps else []) = R := ⟨_, rfl⟩
  rw [hR]
  have hR' := Lib.hid hR
  clear hR hf0 hd0
  cases b
  all_goals
    go_enter Tryz.func57, Tryz.ntmps57
    go_wp2
    go_ret
    refine ⟨⟨_, rfl, 88, #[.pointer (some ⟨w.heap.size, 0, none⟩), .pointer (some ⟨w.heap.size + 1, 0, none⟩)], rfl, enters_of Tryz.func88 (by kernel_rfl) rfl, fun W B rv qs hW hown hB hcB hl => ?_⟩, below_two _ _ _⟩
    rw [← hR'.out]
    refine when_do _ _ ps w hp'.out w.heap.size (w.heap.size + 1) W ((KeptP.of_below (below_two _ _ _)).trans hW) B rv qs (hW.at (heap_alloc2_old w _ _) (by decide)) (hW.at (heap_alloc2_new w _ _) (by decide)) hown hB hcB (fun e => ?_)
    rw [← hR'.out] at hl
    first | exact hl | cases e
end Go.Proofs.YtmmpojhjpghdlaaGreatDoor.Dv

/-
  MAKERS, GO ON: around (an element with parts in it).
-/
set_option linter.unusedVariables false
namespace Go.Proofs.YtmmpojhjpghdlaaGreatDoor.Dv
open Go.Lib Go.RowKit
open Xm (Row Pc sv PsOwn PcsAt append_piece below_then sv_some left_of)

variable {cc : Nat}
theorem step_row {W w1 w' : World} {B : Nat} {v : Value} {qs : List Pc} {o : Obj} (hb : Below B W w1) (hk : KeptP cc W w1) (hown : PsOwn B v qs w1) (hB : B ≤ w1.heap.size) (hcB : cc ≤ B) (hg : (w1.alloc o).grownBy w' v.ownBlock) : Below B W w' ∧ KeptP cc W w' :=
  ⟨left_of hown hg B W hb (Nat.le_refl _) hB, hk.trans ((KeptP.of_below ((Below.refl _ _).alloc (Nat.le_refl _) _)).trans (KeptP.of_grown (hown.kept ((Below.refl _ _).alloc (Nat.le_refl _) _)) hcB hg))⟩
theorem flatten_take {α : Type} {pss : List (List α)} {k : Nat} {ps : List α} (h : pss[k]? = some ps) : (pss.take (k + 1)).flatten = (pss.take k).flatten ++ ps := by
  obtain ⟨hl, hv⟩ := List.getElem?_eq_some_iff.1 h
  rw [List.take_succ_eq_append_getElem hl, List.flatten_append, hv]; simp
theorem flatten_le {α : Type} (pss : List (List α)) (k : Nat) : ((pss.take k).flatten).length ≤ pss.flatten.length := by
  have h : pss.flatten = (pss.take k).flatten ++ (pss.drop k).flatten := by rw [← List.flatten_append, List.take_append_drop]
  rw [h, List.length_append]; omega
def opnV (s : Int) (n : ByteArray) : Pc := opn s n.data.toList
def clsV (s : Int) (n : ByteArray) : Pc := cls s n.data.toList

set_option maxHeartbeats 4000000 in
set_option maxRecDepth 100000 in
theorem around_do (s : Int) (n : ByteArray) (pv : Value) (pss : List (List Pc)) (g1 g2 : Nat) (W : World) (B : Nat) (rv : Value) (qs : List Pc) (hp : PartsAt cc W pv pss)
    (hg1 : W.heap[g1]? = some (.cells #[.int .i64 s, .string n] 24 (0, 0))) (hg2 : W.heap[g2]? = some (.cells #[pv] 144 (0, 0))) (hown : PsOwn B rv qs W) (hB : B ≤ W.heap.size) (hcB : cc ≤ B) (hl : qs.length + (el s n.data.toList pss.flatten).length ≤ 1099511627776) :
    Calls Tryz.prog 89 #[rv, .pointer (some ⟨g1, 0, none⟩), .pointer (some ⟨g2, 0, none⟩)] W fun e W' => ∃ rv', e = .returned rv' ∧ PsOwn B rv' (qs ++ el s n.data.toList pss.flatten) W' ∧ Below B W W' ∧ KeptP cc W W' := by
  have hlen : (el s n.data.toList pss.flatten).length = pss.flatten.length + 2 := by simp [el]
  rw [hlen] at hl
  have hF : ∀ w', KeptP cc W w' → w'.cell? ⟨g1, 0, none⟩ = some (.int .i64 s) ∧ w'.cell? ⟨g1, 1, none⟩ = some (.string n) ∧ w'.cell? ⟨g2, 0, none⟩ = some pv := fun w' hk => by
    have h1 := hk.at hg1 (by decide)
    have h2 := hk.at hg2 (by decide)
    exact ⟨(Lib.cell_of_heap h1 0).trans rfl, (Lib.cell_of_heap h1 1).trans rfl, (Lib.cell_of_heap h2 0).trans rfl⟩
  have hfl := flatten_le pss
  have hft := fun k ps => @flatten_take Pc pss k ps
  obtain ⟨N, hN⟩ : ∃ N, pss.length = N := ⟨_, rfl⟩
  have hN100 := parts_len hp
  obtain ⟨A, hA⟩ := hp.form
  rw [hN] at hA hN100
  subst hA
  have hc : ∀ (k : Nat) w', KeptP cc W w' → k < N → ∃ b ps f caps, A = some ⟨b, 0, none⟩ ∧ pss[k]? = some ps ∧ w'.cell? ⟨b, k, none⟩ = some (.func (.func f) #[] caps) ∧ EntersF f ∧ Mk cc W (.func (.func f) #[] caps) ps := fun k w' hk hlt => by
    rcases hp with ⟨rfl, _⟩ | ⟨b, cs, e1, e2, e3, e4⟩
    · simp at hN; omega
    · have hps : pss[k]? = some (pss[k]'(by omega)) := List.getElem?_eq_getElem _
      obtain ⟨fv, q1, q2⟩ := e4 k _ hps
      injection e1 with e1 _ _
      have q3 := q2
      obtain ⟨f, caps, rfl, q4, _⟩ := q3
      refine ⟨b, _, f, caps, e1, hps, ?_, q4, q2⟩
      rw [Lib.cell_of_heap (hk.at e2 (by decide)) k, q1]
  obtain ⟨k1, k2, k3⟩ := hF W (KeptP.refl W)
  have hown' := Lib.hid hown
  have hF' := Lib.hid hF
  have hfl' := Lib.hid hfl
  have hft' := Lib.hid hft
  have hc' := Lib.hid hc
  have hN' := Lib.hid hN
  have hn : sv n.data.toList = .string n := Xm.sv_data n
  have hl1 : qs.length ≤ 1099511627776 := by omega
  obtain ⟨ao, co, rfl⟩ := Xm.ownsRow_form hown
  clear hown hF hfl hft hc hN hp hg1 hg2 hlen
  go_enter Tryz.func89, Tryz.ntmps89
  go_wp2_with (at_builtin; refine append_piece (opnV s n) n ⟨#[]⟩ 1 s hn rfl rfl rfl rfl _ _ rfl B _ qs _ rfl rfl rfl hown'.out hl1 hB ?_)
  intro v7 w7 hown7 hg7
  obtain ⟨h71, h72⟩ := step_row (Below.refl _ _) (KeptP.refl _) hown'.out hB hcB hg7
  obtain ⟨m1, m2, m3⟩ := hF'.out w7 h72
  have h71' := Lib.hid h71
  have h72' := Lib.hid h72
  have hown7' := Lib.hid hown7
  clear hown7 hg7 h71 h72 k1 k2 k3
  go_wp2
  go_loopw [0, 17] (fun s0 s17 wr => ∃ k : Nat, s17 = .int .i64 (k : Int) ∧ k ≤ N ∧ Hid (PsOwn B s0 (qs ++ [opnV s n] ++ (pss.take k).flatten) wr) ∧ Hid (Below B W wr) ∧ Hid (KeptP cc W wr)) (fun s0 s17 wr => N - (RowKit.intOf s17).toNat)
  case atStart => exact ⟨0, rfl, Nat.zero_le _, Lib.hid (by simpa using hown7'.out), h71', h72'⟩
  case round =>
    clear hown7' m1 m2 m3 h71' h72'
    obtain ⟨k, rfl, hk, hownr, hbr, hkr⟩ := hrel
    have hzr := Nat.le_trans hB hbr.out.size
    by_cases hlt : k < N
    · obtain ⟨b, ps, f, caps, rfl, hps, hcell, hf, hmk⟩ := hc'.out k wr hkr.out hlt
      obtain ⟨f', caps', e1, hf', hdo⟩ := hmk
      injection e1 with e1 _ e2
      injection e1 with e1
      subst e1 e2
      have hb1 := hfl'.out (k + 1)
      rw [hft'.out k ps hps, List.length_append] at hb1
      obtain ⟨as0, cs0, es⟩ := Xm.ownsRow_form hownr.out
      obtain ⟨M, hM⟩ : ∃ M, (qs ++ [opnV s n] ++ (pss.take k).flatten).length = M := ⟨_, rfl⟩
      rw [hM] at es
      have hM' := Lib.hid hM
      clear hM
      subst es
      have hd := hdo wr B _ _ hkr.out hownr.out hzr hcB (by simp only [List.length_append, List.length_singleton]; omega)
      have hft2 := Lib.hid (hft'.out k ps hps)
      clear hdo hb1
      go_wp2_with (go_at_fn f; refine hd.mono ?_; rintro e w3 ⟨rv3, rfl, h3⟩)
      have h3' := Lib.hid h3
      clear h3 hd
      go_wp2
      go_roundw
      case rel =>
        obtain ⟨r1, r2, r3⟩ := h3'.out
        refine ⟨k + 1, by go_num, by omega, Lib.hid ?_, Lib.hid ?_, Lib.hid (hkr.out.trans r3)⟩
        · rw [hft2.out, ← List.append_assoc]; exact r1
        · exact ⟨r2.os.trans hbr.out.os, r2.tape.trans hbr.out.tape, r2.output.trans hbr.out.output, Nat.le_trans hbr.out.size r2.size, fun i hi => (r2.block i hi).trans (hbr.out.block i hi)⟩
      case measure => simp [RowKit.intOf]; omega
    · have ek : k = N := by omega
      have htk : pss.take k = pss := List.take_of_length_le (by have := hN'.out; omega)
      rw [htk] at hownr
      obtain ⟨as0, cs0, es⟩ := Xm.ownsRow_form hownr.out
      obtain ⟨M, hM⟩ : ∃ M, (qs ++ [opnV s n] ++ pss.flatten).length = M := ⟨_, rfl⟩
      rw [hM] at es
      have hM' := Lib.hid hM
      clear hM
      subst es
      obtain ⟨m1, m2, m3⟩ := hF'.out wr hkr.out
      have hl2 : (qs ++ [opnV s n] ++ pss.flatten).length ≤ 1099511627776 := by simp only [List.length_append, List.length_singleton]; omega
      clear htk
      go_wp2_with (at_builtin; refine append_piece (clsV s n) n ⟨#[]⟩ 2 s hn rfl rfl rfl rfl _ _ rfl B _ (qs ++ [opnV s n] ++ pss.flatten) _ rfl rfl rfl hownr.out hl2 hzr ?_)
      intro v8 w8 hown8 hg8
      have hfin := Lib.hid (And.intro hown8 (step_row hbr.out hkr.out hownr.out hzr hcB hg8))
      clear hown8 hg8
      go_wp2
      go_ret
      exact ⟨_, rfl, hfin.out.1, hfin.out.2⟩
set_option maxHeartbeats 2000000 in
set_option maxRecDepth 100000 in
theorem around_any (s : Int) (n : ByteArray) (pv : Value) (pss : List (List Pc)) (w : World) (hp : PartsAt cc w pv pss) :
    Calls Tryz.prog 58 #[.agg #[.int .i64 s, .string n], pv] w fun e w' => (∃ v, e = .returned v ∧ Mk cc w' v (el s n.data.toList pss.flatten)) ∧ Below w.heap.size w w' := by
  obtain ⟨A, hA⟩ := hp.form
  obtain ⟨N, hN⟩ : ∃ N, pss.length = N := ⟨_, rfl⟩
  rw [hN] at hA
  have hp' := Lib.hid hp
  subst hA
  clear hp hN
  obtain ⟨R, hR⟩ : ∃ R, el s n.data.toList pss.flatten = R := ⟨_, rfl⟩
  rw [hR]
  have hR' := Lib.hid hR
  clear hR
  go_enter Tryz.func58, Tryz.ntmps58
  go_wp2
  go_ret
  refine ⟨⟨_, rfl, 89, #[.pointer (some ⟨w.heap.size, 0, none⟩), .pointer (some ⟨w.heap.size + 1, 0, none⟩)], rfl, enters_of Tryz.func89 (by kernel_rfl) rfl, fun W B rv qs hW hown hB hcB hl => ?_⟩, below_two _ _ _⟩
  rw [← hR'.out] at hl ⊢
  exact around_do s n _ pss w.heap.size (w.heap.size + 1) W B rv qs (hp'.out.kept ((KeptP.of_below (below_two _ _ _)).trans hW)) (hW.at (heap_alloc2_old w _ _) (by decide)) (hW.at (heap_alloc2_new w _ _) (by decide)) hown hB hcB hl
end Go.Proofs.YtmmpojhjpghdlaaGreatDoor.Dv

/-
  THE OPERATIONS OF THE REGIONS THAT MAKE MAKERS (RegMono): each by one law.
-/
set_option linter.unusedVariables false
namespace Go.Proofs.YtmmpojhjpghdlaaGreatDoor.Dv
open Go.Lib Go.RowKit Rg
open Xm (Row Pc sv PsOwn PcsAt append_piece below_then sv_some left_of)

section
variable {cc : Nat} {Q : Exit → Act → World → Prop} {a : Act} {sl : List Nat} {w1 : World} {F : Nat → Value → World → Prop} {i s : Nat} {o : Oper}
theorem same_world (W : World) : Below W.heap.size W W := Below.refl _ _
/-- what a temporary of the region holds -/
theorem had {u : Nat → Value} {W : World} (h : Had a sl F o u W) {k t : Nat} (hk : k ∈ deps o) (ht : sl[k]? = some t) : (puts a sl u).eval (.tmp t) = u t ∧ F k (u t) W := h k t hk ht
set_option maxRecDepth 100000 in
theorem faItem0 (hg : o.guard = none) (hs : sl[i]? = some s) (hds : o.dst = some s) {t : Nat} (hop : o.op = .fieldAddr 79 (.tmp t) 0) (ht : sl.contains t = false) (g : Nat) (hv : a.eval (.tmp t) = .pointer (some ⟨g, 0, none⟩)) (hF : ∀ W, F i (.pointer (some ⟨g, 0, none⟩)) W) : MonoAt Tryz.prog Q a sl w1 F i o := by
  refine MonoAt.yields hg hs hds fun u W hW hd => ⟨.pointer (some ⟨g, 0, none⟩), W, ?_, same_world W, hF W⟩
  have e1 := eval_old (u := u) ht hv
  clear hd hF
  simp only [execOp, hop, e1]
  go_simp
set_option maxRecDepth 100000 in
theorem faItem1 (hg : o.guard = none) (hs : sl[i]? = some s) (hds : o.dst = some s) {t : Nat} (hop : o.op = .fieldAddr 79 (.tmp t) 1) (ht : sl.contains t = false) (g : Nat) (hv : a.eval (.tmp t) = .pointer (some ⟨g, 0, none⟩)) (hF : ∀ W, F i (.pointer (some ⟨g, 1, none⟩)) W) : MonoAt Tryz.prog Q a sl w1 F i o := by
  refine MonoAt.yields hg hs hds fun u W hW hd => ⟨.pointer (some ⟨g, 1, none⟩), W, ?_, same_world W, hF W⟩
  have e1 := eval_old (u := u) ht hv
  clear hd hF
  simp only [execOp, hop, e1]
  go_simp
set_option maxRecDepth 100000 in
theorem faItem2 (hg : o.guard = none) (hs : sl[i]? = some s) (hds : o.dst = some s) {t : Nat} (hop : o.op = .fieldAddr 79 (.tmp t) 2) (ht : sl.contains t = false) (g : Nat) (hv : a.eval (.tmp t) = .pointer (some ⟨g, 0, none⟩)) (hF : ∀ W, F i (.pointer (some ⟨g, 2, none⟩)) W) : MonoAt Tryz.prog Q a sl w1 F i o := by
  refine MonoAt.yields hg hs hds fun u W hW hd => ⟨.pointer (some ⟨g, 2, none⟩), W, ?_, same_world W, hF W⟩
  have e1 := eval_old (u := u) ht hv
  clear hd hF
  simp only [execOp, hop, e1]
  go_simp
set_option maxRecDepth 100000 in
theorem faItem3 (hg : o.guard = none) (hs : sl[i]? = some s) (hds : o.dst = some s) {t : Nat} (hop : o.op = .fieldAddr 79 (.tmp t) 3) (ht : sl.contains t = false) (g : Nat) (hv : a.eval (.tmp t) = .pointer (some ⟨g, 0, none⟩)) (hF : ∀ W, F i (.pointer (some ⟨g, 3, none⟩)) W) : MonoAt Tryz.prog Q a sl w1 F i o := by
  refine MonoAt.yields hg hs hds fun u W hW hd => ⟨.pointer (some ⟨g, 3, none⟩), W, ?_, same_world W, hF W⟩
  have e1 := eval_old (u := u) ht hv
  clear hd hF
  simp only [execOp, hop, e1]
  go_simp
set_option maxRecDepth 100000 in
theorem faItem4 (hg : o.guard = none) (hs : sl[i]? = some s) (hds : o.dst = some s) {t : Nat} (hop : o.op = .fieldAddr 79 (.tmp t) 4) (ht : sl.contains t = false) (g : Nat) (hv : a.eval (.tmp t) = .pointer (some ⟨g, 0, none⟩)) (hF : ∀ W, F i (.pointer (some ⟨g, 4, none⟩)) W) : MonoAt Tryz.prog Q a sl w1 F i o := by
  refine MonoAt.yields hg hs hds fun u W hW hd => ⟨.pointer (some ⟨g, 4, none⟩), W, ?_, same_world W, hF W⟩
  have e1 := eval_old (u := u) ht hv
  clear hd hF
  simp only [execOp, hop, e1]
  go_simp
set_option maxRecDepth 100000 in
theorem faTold0 (hg : o.guard = none) (hs : sl[i]? = some s) (hds : o.dst = some s) {t : Nat} (hop : o.op = .fieldAddr 41 (.tmp t) 0) (ht : sl.contains t = false) (g : Nat) (hv : a.eval (.tmp t) = .pointer (some ⟨g, 0, none⟩)) (hF : ∀ W, F i (.pointer (some ⟨g, 0, none⟩)) W) : MonoAt Tryz.prog Q a sl w1 F i o := by
  refine MonoAt.yields hg hs hds fun u W hW hd => ⟨.pointer (some ⟨g, 0, none⟩), W, ?_, same_world W, hF W⟩
  have e1 := eval_old (u := u) ht hv
  clear hd hF
  simp only [execOp, hop, e1]
  go_simp
set_option maxRecDepth 100000 in
theorem faTold1 (hg : o.guard = none) (hs : sl[i]? = some s) (hds : o.dst = some s) {t : Nat} (hop : o.op = .fieldAddr 41 (.tmp t) 1) (ht : sl.contains t = false) (g : Nat) (hv : a.eval (.tmp t) = .pointer (some ⟨g, 0, none⟩)) (hF : ∀ W, F i (.pointer (some ⟨g, 1, none⟩)) W) : MonoAt Tryz.prog Q a sl w1 F i o := by
  refine MonoAt.yields hg hs hds fun u W hW hd => ⟨.pointer (some ⟨g, 1, none⟩), W, ?_, same_world W, hF W⟩
  have e1 := eval_old (u := u) ht hv
  clear hd hF
  simp only [execOp, hop, e1]
  go_simp
set_option maxRecDepth 100000 in
theorem ldStr (hg : o.guard = none) (hs : sl[i]? = some s) (hds : o.dst = some s) {k t : Nat} (hop : o.op = .load 9 (.tmp t)) (hk : k ∈ deps o) (ht : sl[k]? = some t) (p : Addr) (x : ByteArray) (hFk : ∀ v W, F k v W → v = .pointer (some p)) (hx : ∀ W, Below w1.heap.size w1 W → W.cell? p = some (.string x)) (hF : ∀ W, F i (.string x) W) : MonoAt Tryz.prog Q a sl w1 F i o := by
  refine MonoAt.yields hg hs hds fun u W hW hd => ⟨.string x, W, ?_, same_world W, hF W⟩
  obtain ⟨e1, e2⟩ := had hd hk ht
  rw [hFk _ _ e2] at e1
  have c := hx W hW
  clear hx hd hFk hF
  simp only [execOp, hop, e1]
  go_simp
set_option maxRecDepth 100000 in
theorem ldBool (hg : o.guard = none) (hs : sl[i]? = some s) (hds : o.dst = some s) {k t : Nat} (hop : o.op = .load 4 (.tmp t)) (hk : k ∈ deps o) (ht : sl[k]? = some t) (p : Addr) (x : Bool) (hFk : ∀ v W, F k v W → v = .pointer (some p)) (hx : ∀ W, Below w1.heap.size w1 W → W.cell? p = some (.bool x)) (hF : ∀ W, F i (.bool x) W) : MonoAt Tryz.prog Q a sl w1 F i o := by
  refine MonoAt.yields hg hs hds fun u W hW hd => ⟨.bool x, W, ?_, same_world W, hF W⟩
  obtain ⟨e1, e2⟩ := had hd hk ht
  rw [hFk _ _ e2] at e1
  have c := hx W hW
  clear hx hd hFk hF
  simp only [execOp, hop, e1]
  go_simp
set_option maxRecDepth 100000 in
theorem neStr (hg : o.guard = none) (hs : sl[i]? = some s) (hds : o.dst = some s) {k t : Nat} (hop : o.op = .binOp .neq 9 (.tmp t) (.const (.string ⟨#[]⟩)) 9) (hk : k ∈ deps o) (ht : sl[k]? = some t) (x : ByteArray) (hFk : ∀ v W, F k v W → v = .string x) (hF : ∀ W b, (b = true ↔ x.data.toList ≠ []) → F i (.bool b) W) : MonoAt Tryz.prog Q a sl w1 F i o := by
  refine MonoAt.yields hg hs hds fun u W hW hd => ⟨.bool (!(x.toList == [])), W, ?_, same_world W, hF W _ ?_⟩
  · obtain ⟨e1, e2⟩ := had hd hk ht
    rw [hFk _ _ e2] at e1
    clear hd hFk hF
    simp only [execOp, hop, e1]
    go_simp
  · rw [Lib.toList_data]; simp
set_option maxRecDepth 100000 in
theorem nmCall (hg : o.guard = none) (hs : sl[i]? = some s) (hds : o.dst = some s) (x : ByteArray) (hop : o.op = .call { callee := .value (.func 40), args := #[.const (.string x)], argTypes := #[9] }) (hF : ∀ W, F i (.agg #[.int .i64 1, .string x]) W) : MonoAt Tryz.prog Q a sl w1 F i o := by
  refine MonoAt.calls hg hs hds fun u W hW hd => ⟨40, #[.string x], ?_, (dav_any x W).mono ?_⟩
  · clear hd hF
    simp only [execOp, hop]
    go_simp
  · rintro e w' ⟨rfl, hb⟩
    exact ⟨⟨_, rfl, hF _⟩, hb⟩
set_option maxRecDepth 100000 in
theorem cdCall (hg : o.guard = none) (hs : sl[i]? = some s) (hds : o.dst = some s) (x : ByteArray) (hop : o.op = .call { callee := .value (.func 43), args := #[.const (.string x)], argTypes := #[9] }) (hF : ∀ W, F i (.agg #[.int .i64 2, .string x]) W) : MonoAt Tryz.prog Q a sl w1 F i o := by
  refine MonoAt.calls hg hs hds fun u W hW hd => ⟨43, #[.string x], ?_, (card_any x W).mono ?_⟩
  · clear hd hF
    simp only [execOp, hop]
    go_simp
  · rintro e w' ⟨rfl, hb⟩
    exact ⟨⟨_, rfl, hF _⟩, hb⟩
set_option maxRecDepth 100000 in
theorem chCall (hg : o.guard = none) (hs : sl[i]? = some s) (hds : o.dst = some s) {k t : Nat} (hop : o.op = .call { callee := .value (.func 59), args := #[.tmp t], argTypes := #[9] }) (hk : k ∈ deps o) (ht : sl[k]? = some t) (x : ByteArray) (hFk : ∀ v W, F k v W → v = .string x) (hF : ∀ W v, Mk cc W v [⟨3, 0, [], x.data.toList⟩] → F i v W) : MonoAt Tryz.prog Q a sl w1 F i o := by
  refine MonoAt.calls hg hs hds fun u W hW hd => ⟨59, #[.string x], ?_, (chars_any (cc := cc) x W).mono ?_⟩
  · obtain ⟨e1, e2⟩ := had hd hk ht
    rw [hFk _ _ e2] at e1
    have e3 : (puts a sl u).tmps[t]?.getD undef = .string x := by simpa [Act.eval] using e1
    clear hd hFk hF
    simp only [execOp, hop]
    go_simp
  · rintro e w' ⟨⟨v, rfl, hv⟩, hb⟩
    exact ⟨⟨_, rfl, hF _ _ hv⟩, hb⟩
end
end Go.Proofs.YtmmpojhjpghdlaaGreatDoor.Dv

/-
  MAKERS, GO ON: href, status; rows of one, two, three makers.
-/
set_option linter.unusedVariables false
namespace Go.Proofs.YtmmpojhjpghdlaaGreatDoor.Dv
open Go.Lib Go.RowKit
open Xm (Row Pc sv PsOwn PcsAt append_piece below_then sv_some left_of)

variable {cc : Nat}
theorem parts1 {w : World} {f1 : Value} {p1 : List Pc} (h1 : Mk cc w f1 p1) : PartsAt cc (w.alloc (.cells #[f1] 86)) (.slice (some ⟨w.heap.size, 0, none⟩) 1 1) [p1] := by
  refine .inr ⟨w.heap.size, #[f1], rfl, heap_alloc_new w _, by simp, fun j ps hj => ?_⟩
  have hb : Below w.heap.size w (w.alloc (.cells #[f1] 86)) := (Below.refl _ _).alloc (Nat.le_refl _) _
  match j, hj with
  | 0, hj => simp at hj; subst hj; exact ⟨f1, rfl, h1.below hb⟩
theorem parts2 {w : World} {f1 f2 : Value} {p1 p2 : List Pc} (h1 : Mk cc w f1 p1) (h2 : Mk cc w f2 p2) : PartsAt cc (w.alloc (.cells #[f1, f2] 86)) (.slice (some ⟨w.heap.size, 0, none⟩) 2 2) [p1, p2] := by
  refine .inr ⟨w.heap.size, #[f1, f2], rfl, heap_alloc_new w _, by simp, fun j ps hj => ?_⟩
  have hb : Below w.heap.size w (w.alloc (.cells #[f1, f2] 86)) := (Below.refl _ _).alloc (Nat.le_refl _) _
  match j, hj with
  | 0, hj => simp at hj; subst hj; exact ⟨f1, rfl, h1.below hb⟩
  | 1, hj => simp at hj; subst hj; exact ⟨f2, rfl, h2.below hb⟩
theorem parts3 {w : World} {f1 f2 f3 : Value} {p1 p2 p3 : List Pc} (h1 : Mk cc w f1 p1) (h2 : Mk cc w f2 p2) (h3 : Mk cc w f3 p3) : PartsAt cc (w.alloc (.cells #[f1, f2, f3] 86)) (.slice (some ⟨w.heap.size, 0, none⟩) 3 3) [p1, p2, p3] := by
  refine .inr ⟨w.heap.size, #[f1, f2, f3], rfl, heap_alloc_new w _, by simp, fun j ps hj => ?_⟩
  have hb : Below w.heap.size w (w.alloc (.cells #[f1, f2, f3] 86)) := (Below.refl _ _).alloc (Nat.le_refl _) _
  match j, hj with
  | 0, hj => simp at hj; subst hj; exact ⟨f1, rfl, h1.below hb⟩
  | 1, hj => simp at hj; subst hj; exact ⟨f2, rfl, h2.below hb⟩
  | 2, hj => simp at hj; subst hj; exact ⟨f3, rfl, h3.below hb⟩
theorem Mk.form {w : World} {v : Value} {ps : List Pc} (h : Mk cc w v ps) : ∃ f caps, v = .func (.func f) #[] caps := by
  obtain ⟨f, caps, h, _⟩ := h
  exact ⟨f, caps, h⟩
set_option maxHeartbeats 2000000 in
set_option maxRecDepth 100000 in
theorem href_any (t : ByteArray) (w : World) : Calls Tryz.prog 92 #[.string t] w fun e w' => (∃ v, e = .returned v ∧ Mk cc w' v (full 1 hrefS t.data.toList)) ∧ Below w.heap.size w w' := by
  have c1 := dav_any ⟨#[104, 114, 101, 102]⟩ w
  have c2 := fun W => chars_any (cc := cc) t W
  have c3 := Lib.hid (fun pv pss W (h : PartsAt cc W pv pss) => around_any 1 ⟨#[104, 114, 101, 102]⟩ pv pss W h)
  obtain ⟨R, hR⟩ : ∃ R, full 1 hrefS t.data.toList = R := ⟨_, rfl⟩
  rw [hR]
  have hR' := Lib.hid (show el 1 (⟨#[104, 114, 101, 102]⟩ : ByteArray).data.toList ([[⟨3, 0, [], t.data.toList⟩]] : List (List Pc)).flatten = R from hR)
  clear hR
  go_enter Tryz.func92, Tryz.ntmps92
  go_wp2_with fail
  go_at_call 40
  with_reducible refine c1.mono ?_
  rintro e w1 ⟨rfl, hb1⟩
  have d2 := c2 w1
  clear c1 c2
  go_wp2_with fail
  go_at_call 59
  with_reducible refine d2.mono ?_
  rintro e w2 ⟨⟨v2, rfl, hm2⟩, hb2⟩
  have hb2' := below_then hb1 hb2
  have hp := parts1 hm2
  have d3 := c3.out _ _ _ hp
  obtain ⟨f, caps, rfl⟩ := hm2.form
  have hb3' : Below w.heap.size w (w2.alloc (.cells #[.func (.func f) #[] caps] 86)) := hb2'.alloc hb2'.size _
  clear d2 hb1 hb2 hm2 hp hb2' c3
  go_wp2_with fail
  go_at_call 58
  with_reducible refine d3.mono ?_
  rintro e w4 ⟨⟨v4, rfl, hm4⟩, hb4⟩
  have hfin := Lib.hid (And.intro hm4 (below_then hb3' hb4))
  clear d3 hm4 hb4 hb3'
  go_wp2
  go_ret
  refine ⟨⟨_, rfl, ?_⟩, hfin.out.2⟩
  rw [← hR'.out]
  exact hfin.out.1
set_option maxHeartbeats 2000000 in
set_option maxRecDepth 100000 in
theorem status_any (t : ByteArray) (w : World) : Calls Tryz.prog 93 #[.string t] w fun e w' => (∃ v, e = .returned v ∧ Mk cc w' v (full 1 statusS t.data.toList)) ∧ Below w.heap.size w w' := by
  have c1 := dav_any ⟨#[115, 116, 97, 116, 117, 115]⟩ w
  have c2 := fun W => chars_any (cc := cc) t W
  have c3 := Lib.hid (fun pv pss W (h : PartsAt cc W pv pss) => around_any 1 ⟨#[115, 116, 97, 116, 117, 115]⟩ pv pss W h)
  obtain ⟨R, hR⟩ : ∃ R, full 1 statusS t.data.toList = R := ⟨_, rfl⟩
  rw [hR]
  have hR' := Lib.hid (show el 1 (⟨#[115, 116, 97, 116, 117, 115]⟩ : ByteArray).data.toList ([[⟨3, 0, [], t.data.toList⟩]] : List (List Pc)).flatten = R from hR)
  clear hR
  go_enter Tryz.func93, Tryz.ntmps93
  go_wp2_with fail
  go_at_call 40
  with_reducible refine c1.mono ?_
  rintro e w1 ⟨rfl, hb1⟩
  have d2 := c2 w1
  clear c1 c2
  go_wp2_with fail
  go_at_call 59
  with_reducible refine d2.mono ?_
  rintro e w2 ⟨⟨v2, rfl, hm2⟩, hb2⟩
  have hb2' := below_then hb1 hb2
  have hp := parts1 hm2
  have d3 := c3.out _ _ _ hp
  obtain ⟨f, caps, rfl⟩ := hm2.form
  have hb3' : Below w.heap.size w (w2.alloc (.cells #[.func (.func f) #[] caps] 86)) := hb2'.alloc hb2'.size _
  clear d2 hb1 hb2 hm2 hp hb2' c3
  go_wp2_with fail
  go_at_call 58
  with_reducible refine d3.mono ?_
  rintro e w4 ⟨⟨v4, rfl, hm4⟩, hb4⟩
  have hfin := Lib.hid (And.intro hm4 (below_then hb3' hb4))
  clear d3 hm4 hb4 hb3'
  go_wp2
  go_ret
  refine ⟨⟨_, rfl, ?_⟩, hfin.out.2⟩
  rw [← hR'.out]
  exact hfin.out.1
end Go.Proofs.YtmmpojhjpghdlaaGreatDoor.Dv

/-
  THE OPERATIONS OF THE REGIONS THAT MAKE MAKERS, GO ON: rows of makers, around, when, href, status, moves.
-/
set_option linter.unusedVariables false
namespace Go.Proofs.YtmmpojhjpghdlaaGreatDoor.Dv
open Go.Lib Go.RowKit Rg
open Xm (Row Pc sv PsOwn PcsAt append_piece below_then sv_some left_of)

section
variable {cc : Nat} {Q : Exit → Act → World → Prop} {a : Act} {sl : List Nat} {w1 : World} {F : Nat → Value → World → Prop} {i s : Nat} {o : Oper}
theorem tmp_of {u : Nat → Value} {t : Nat} {v : Value} (h : (puts a sl u).eval (.tmp t) = v) : (puts a sl u).tmps[t]?.getD undef = v := by simpa [Act.eval] using h
set_option maxRecDepth 100000 in
theorem bs1 (hg : o.guard = none) (hs : sl[i]? = some s) (hds : o.dst = some s) {k t : Nat} (hop : o.op = .buildSlice 144 1 #[(0, .tmp t)]) (hk : k ∈ deps o) (ht : sl[k]? = some t) (p1 : List Pc) (h1 : ∀ v W, F k v W → Mk cc W v p1) (hF : ∀ W v, PartsAt cc W v [p1] → F i v W) : MonoAt Tryz.prog Q a sl w1 F i o := by
  refine MonoAt.yields hg hs hds fun u W hW hd => ?_
  obtain ⟨e1, m1⟩ := had hd hk ht
  replace m1 := h1 _ _ m1
  have hp := hF _ _ (parts1 m1)
  obtain ⟨f1, c1, q1⟩ := m1.form
  rw [q1] at e1 hp
  refine ⟨_, _, ?_, (Below.refl _ _).alloc (Nat.le_refl _) _, hp⟩
  clear hd hF h1 m1 hp
  simp only [execOp, hop, List.map_toArray, List.map_cons, List.map_nil, e1]
  go_simp
set_option maxRecDepth 100000 in
theorem bs2 (hg : o.guard = none) (hs : sl[i]? = some s) (hds : o.dst = some s) {k t k' t' : Nat} (hop : o.op = .buildSlice 144 2 #[(0, .tmp t), (1, .tmp t')]) (hk : k ∈ deps o) (ht : sl[k]? = some t) (hk' : k' ∈ deps o) (ht' : sl[k']? = some t') (p1 p2 : List Pc) (h1 : ∀ v W, F k v W → Mk cc W v p1) (h2 : ∀ v W, F k' v W → Mk cc W v p2) (hF : ∀ W v, PartsAt cc W v [p1, p2] → F i v W) : MonoAt Tryz.prog Q a sl w1 F i o := by
  refine MonoAt.yields hg hs hds fun u W hW hd => ?_
  obtain ⟨e1, m1⟩ := had hd hk ht
  obtain ⟨e2, m2⟩ := had hd hk' ht'
  replace m1 := h1 _ _ m1
  replace m2 := h2 _ _ m2
  have hp := hF _ _ (parts2 m1 m2)
  obtain ⟨f1, c1, q1⟩ := m1.form
  obtain ⟨f2, c2, q2⟩ := m2.form
  rw [q1] at e1 hp
  rw [q2] at e2 hp
  refine ⟨_, _, ?_, (Below.refl _ _).alloc (Nat.le_refl _) _, hp⟩
  clear hd hF h1 h2 m1 m2 hp
  simp only [execOp, hop, List.map_toArray, List.map_cons, List.map_nil, e1, e2]
  go_simp
set_option maxRecDepth 100000 in
theorem bs3 (hg : o.guard = none) (hs : sl[i]? = some s) (hds : o.dst = some s) {k t k' t' k'' t'' : Nat} (hop : o.op = .buildSlice 144 3 #[(0, .tmp t), (1, .tmp t'), (2, .tmp t'')]) (hk : k ∈ deps o) (ht : sl[k]? = some t) (hk' : k' ∈ deps o) (ht' : sl[k']? = some t') (hk'' : k'' ∈ deps o) (ht'' : sl[k'']? = some t'') (p1 p2 p3 : List Pc) (h1 : ∀ v W, F k v W → Mk cc W v p1) (h2 : ∀ v W, F k' v W → Mk cc W v p2) (h3 : ∀ v W, F k'' v W → Mk cc W v p3) (hF : ∀ W v, PartsAt cc W v [p1, p2, p3] → F i v W) : MonoAt Tryz.prog Q a sl w1 F i o := by
  refine MonoAt.yields hg hs hds fun u W hW hd => ?_
  obtain ⟨e1, m1⟩ := had hd hk ht
  obtain ⟨e2, m2⟩ := had hd hk' ht'
  obtain ⟨e3, m3⟩ := had hd hk'' ht''
  replace m1 := h1 _ _ m1
  replace m2 := h2 _ _ m2
  replace m3 := h3 _ _ m3
  have hp := hF _ _ (parts3 m1 m2 m3)
  obtain ⟨f1, c1, q1⟩ := m1.form
  obtain ⟨f2, c2, q2⟩ := m2.form
  obtain ⟨f3, c3, q3⟩ := m3.form
  rw [q1] at e1 hp
  rw [q2] at e2 hp
  rw [q3] at e3 hp
  refine ⟨_, _, ?_, (Below.refl _ _).alloc (Nat.le_refl _) _, hp⟩
  clear hd hF h1 h2 h3 m1 m2 m3 hp
  simp only [execOp, hop, List.map_toArray, List.map_cons, List.map_nil, e1, e2, e3]
  go_simp
set_option maxRecDepth 100000 in
theorem arCall (hg : o.guard = none) (hs : sl[i]? = some s) (hds : o.dst = some s) {k t k' t' : Nat} (hop : o.op = .call { callee := .value (.func 58), args := #[.tmp t, .tmp t'], argTypes := #[24, 144] }) (hk : k ∈ deps o) (ht : sl[k]? = some t) (hk' : k' ∈ deps o) (ht' : sl[k']? = some t') (sp : Int) (n : ByteArray) (pss : List (List Pc)) (h1 : ∀ v W, F k v W → v = .agg #[.int .i64 sp, .string n]) (h2 : ∀ v W, F k' v W → PartsAt cc W v pss) (hF : ∀ W v, Mk cc W v (el sp n.data.toList pss.flatten) → F i v W) : MonoAt Tryz.prog Q a sl w1 F i o := by
  refine MonoAt.calls hg hs hds fun u W hW hd => ?_
  obtain ⟨e1, m1⟩ := had hd hk ht
  obtain ⟨e2, m2⟩ := had hd hk' ht'
  rw [h1 _ _ m1] at e1
  replace m2 := h2 _ _ m2
  refine ⟨58, #[.agg #[.int .i64 sp, .string n], u t'], ?_, (around_any sp n (u t') pss W m2).mono ?_⟩
  · obtain ⟨A, q⟩ := m2.form
    rw [q] at e2 ⊢
    replace e1 := tmp_of e1
    replace e2 := tmp_of e2
    clear hd hF h1 h2 m1 m2
    simp only [execOp, hop]
    go_simp
  · rintro e w' ⟨⟨v, rfl, hv⟩, hb⟩
    exact ⟨⟨_, rfl, hF _ _ hv⟩, hb⟩
set_option maxRecDepth 100000 in
theorem whCall (hg : o.guard = none) (hs : sl[i]? = some s) (hds : o.dst = some s) {k t k' t' : Nat} (hop : o.op = .call { callee := .value (.func 57), args := #[.tmp t, .tmp t'], argTypes := #[4, 86] }) (hk : k ∈ deps o) (ht : sl[k]? = some t) (hk' : k' ∈ deps o) (ht' : sl[k']? = some t') (R : Bool → Prop) (ps : List Pc) (h1 : ∀ v W, F k v W → ∃ b, v = .bool b ∧ R b) (h2 : ∀ v W, F k' v W → Mk cc W v ps) (hF : ∀ W v b, R b → Mk cc W v (if b = true then ps else []) → F i v W) : MonoAt Tryz.prog Q a sl w1 F i o := by
  refine MonoAt.calls hg hs hds fun u W hW hd => ?_
  obtain ⟨e1, m1⟩ := had hd hk ht
  obtain ⟨e2, m2⟩ := had hd hk' ht'
  obtain ⟨b, q1, r1⟩ := h1 _ _ m1
  rw [q1] at e1
  replace m2 := h2 _ _ m2
  refine ⟨57, #[.bool b, u t'], ?_, (when_any b (u t') ps W m2).mono ?_⟩
  · obtain ⟨f, c, q⟩ := m2.form
    rw [q] at e2 ⊢
    replace e1 := tmp_of e1
    replace e2 := tmp_of e2
    clear hd hF h1 h2 m1 m2 r1
    simp only [execOp, hop]
    go_simp
  · rintro e w' ⟨⟨v, rfl, hv⟩, hb⟩
    exact ⟨⟨_, rfl, hF _ _ _ r1 hv⟩, hb⟩
set_option maxRecDepth 100000 in
theorem hrCall (hg : o.guard = none) (hs : sl[i]? = some s) (hds : o.dst = some s) {k t : Nat} (hop : o.op = .call { callee := .value (.func 92), args := #[.tmp t], argTypes := #[9] }) (hk : k ∈ deps o) (ht : sl[k]? = some t) (x : ByteArray) (hFk : ∀ v W, F k v W → v = .string x) (hF : ∀ W v, Mk cc W v (full 1 hrefS x.data.toList) → F i v W) : MonoAt Tryz.prog Q a sl w1 F i o := by
  refine MonoAt.calls hg hs hds fun u W hW hd => ⟨92, #[.string x], ?_, (href_any (cc := cc) x W).mono ?_⟩
  · obtain ⟨e1, e2⟩ := had hd hk ht
    rw [hFk _ _ e2] at e1
    replace e1 := tmp_of e1
    clear hd hFk hF
    simp only [execOp, hop]
    go_simp
  · rintro e w' ⟨⟨v, rfl, hv⟩, hb⟩
    exact ⟨⟨_, rfl, hF _ _ hv⟩, hb⟩
set_option maxRecDepth 100000 in
theorem stCall (hg : o.guard = none) (hs : sl[i]? = some s) (hds : o.dst = some s) (x : ByteArray) (hop : o.op = .call { callee := .value (.func 93), args := #[.const (.string x)], argTypes := #[9] }) (hF : ∀ W v, Mk cc W v (full 1 statusS x.data.toList) → F i v W) : MonoAt Tryz.prog Q a sl w1 F i o := by
  refine MonoAt.calls hg hs hds fun u W hW hd => ⟨93, #[.string x], ?_, (status_any (cc := cc) x W).mono ?_⟩
  · clear hd hF
    simp only [execOp, hop]
    go_simp
  · rintro e w' ⟨⟨v, rfl, hv⟩, hb⟩
    exact ⟨⟨_, rfl, hF _ _ hv⟩, hb⟩
set_option maxRecDepth 100000 in
theorem mvOld (hg : o.guard = none) (hs : sl[i]? = some s) (hds : o.dst = some s) {t : Nat} (hop : o.op = .move (.tmp t)) (ht : sl.contains t = false) (v0 : Value) (hv : a.eval (.tmp t) = v0) (hF : ∀ W, Below w1.heap.size w1 W → F i v0 W) : MonoAt Tryz.prog Q a sl w1 F i o := by
  refine MonoAt.yields hg hs hds fun u W hW hd => ⟨v0, W, ?_, same_world W, hF W hW⟩
  have e1 := eval_old (u := u) ht hv
  clear hd hF hW
  simp only [execOp, hop, e1]
  go_simp
set_option maxRecDepth 100000 in
theorem asNew (hg : o.guard = none) (hs : sl[i]? = some s) (hds : o.dst = some s) {k t : Nat} (hop : o.op = .assign (.tmp t)) (hk : k ∈ deps o) (ht : sl[k]? = some t) (hF : ∀ W v, F k v W → F i v W) : MonoAt Tryz.prog Q a sl w1 F i o := by
  refine MonoAt.yields hg hs hds fun u W hW hd => ⟨u t, W, ?_, same_world W, hF W _ (had hd hk ht).2⟩
  have e1 := (had hd hk ht).1
  clear hd hF
  simp only [execOp, hop, e1]
  go_simp
end
end Go.Proofs.YtmmpojhjpghdlaaGreatDoor.Dv
