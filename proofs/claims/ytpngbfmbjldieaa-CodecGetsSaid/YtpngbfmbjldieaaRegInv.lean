/-
  A REGION THAT DRAWS ITS ORDER, BY AN INVARIANT: one proof for each operation in place of one for each order. The invariant speaks of what has come up (d), of the slots that the region writes (u), of the world.
-/
import Derived.RegionTactic
set_option linter.unusedVariables false
namespace Go.Proofs.Ytpngbfmbjldieaa.Rg
open Go

def upd (d : Nat → Bool) (i : Nat) : Nat → Bool := fun k => bif Nat.beq k i then true else d k
def updv (u : Nat → Value) (s : Option Nat) (v : Value) : Nat → Value := fun k => match s with | none => u k | some s => bif Nat.beq k s then v else u k
def puts (a : Act) (slots : List Nat) (u : Nat → Value) : Act := slots.foldl (fun a s => a.put (some s) (u s)) a

theorem upd_self (d : Nat → Bool) (i : Nat) : upd d i i = true := by unfold upd; rw [Nat.beq_refl]; rfl
theorem upd_ne (d : Nat → Bool) {i k : Nat} (h : k ≠ i) : upd d i k = d k := by
  unfold upd
  have : Nat.beq k i = false := by
    cases hb : Nat.beq k i with
    | false => rfl
    | true => exact absurd (Nat.eq_of_beq_eq_true hb) h
  rw [this]; rfl
theorem updv_self (u : Nat → Value) (s : Nat) (v : Value) : updv u (some s) v s = v := by show (bif Nat.beq s s then v else u s) = v; rw [Nat.beq_refl]; rfl
theorem updv_ne (u : Nat → Value) {s k : Nat} (v : Value) (h : k ≠ s) : updv u (some s) v k = u k := by
  show (bif Nat.beq k s then v else u k) = u k
  have : Nat.beq k s = false := by
    cases hb : Nat.beq k s with
    | false => rfl
    | true => exact absurd (Nat.eq_of_beq_eq_true hb) h
  rw [this]; rfl
theorem puts_congr (slots : List Nat) : ∀ (a : Act) (u u' : Nat → Value), (∀ s ∈ slots, u s = u' s) → puts a slots u = puts a slots u' := by
  induction slots with
  | nil => intro a u u' _; rfl
  | cons t ts ih =>
    intro a u u' h
    show puts (a.put (some t) (u t)) ts u = puts (a.put (some t) (u' t)) ts u'
    rw [h t (by simp)]
    exact ih _ _ _ fun s hs => h s (by simp [hs])
theorem put_comm (a : Act) {s t : Nat} (h : s ≠ t) (x y : Value) : (a.put (some s) x).put (some t) y = (a.put (some t) y).put (some s) x := by
  unfold Act.put
  simp only [Act.mk.injEq, and_true]
  exact Array.setIfInBounds_comm _ _ h
theorem put_put (a : Act) (s : Nat) (x y : Value) : (a.put (some s) x).put (some s) y = a.put (some s) y := by
  unfold Act.put
  simp
theorem puts_far (slots : List Nat) : ∀ (a : Act) (u : Nat → Value) (s : Nat) (v : Value), s ∉ slots → (puts a slots u).put (some s) v = puts (a.put (some s) v) slots u := by
  induction slots with
  | nil => intro a u s v _; rfl
  | cons t ts ih =>
    intro a u s v h
    show (puts (a.put (some t) (u t)) ts u).put (some s) v = puts ((a.put (some s) v).put (some t) (u t)) ts u
    rw [ih _ _ _ _ (fun q => h (by simp [q])), put_comm a (s := t) (t := s) (fun q => h (by simp [q]))]
theorem puts_put (slots : List Nat) : ∀ (a : Act) (u : Nat → Value) (s : Nat) (v : Value), slots.Nodup → s ∈ slots → (puts a slots u).put (some s) v = puts a slots (updv u (some s) v) := by
  induction slots with
  | nil => intro a u s v _ h; cases h
  | cons t ts ih =>
    intro a u s v hn h
    obtain ⟨h1, h2⟩ := List.nodup_cons.1 hn
    show (puts (a.put (some t) (u t)) ts u).put (some s) v = puts (a.put (some t) (updv u (some s) v t)) ts (updv u (some s) v)
    by_cases hs : s = t
    · subst hs
      rw [puts_far ts _ _ _ _ h1, put_put, updv_self]
      exact puts_congr ts _ _ _ fun k hk => (updv_ne u v (fun q => by subst q; exact h1 hk)).symm
    · rw [ih _ _ _ _ h2 (by simpa [hs] using h), updv_ne u v (fun q => hs q.symm)]
theorem put_self (a : Act) (s : Nat) : a.put (some s) (a.tmps.getD s undef) = a := by
  unfold Act.put
  obtain ⟨t, d⟩ := a
  simp only [Act.mk.injEq, and_true]
  apply Array.ext
  · simp
  · intro i h1 h2
    rw [Array.getElem_setIfInBounds]
    split
    · rename_i e; subst e; simp [Array.getD, h2]
    · rfl
theorem puts_self (slots : List Nat) : ∀ (a : Act), puts a slots (fun s => a.tmps.getD s undef) = a := by
  induction slots with
  | nil => intro a; rfl
  | cons t ts ih =>
    intro a
    show puts (a.put (some t) (a.tmps.getD t undef)) ts _ = a
    rw [put_self]; exact ih a

def deps (o : Oper) : List Nat := (o.after.toList.filter (Region.binds .any)).map (·.on)
def backs (ops : Array Oper) : Bool := (List.range ops.size).all fun i => ((ops[i]?).map fun o => (deps o).all fun k => decide (k < i)).getD true
/-- what an operation owes -/
def StepAt (P : Program) (Q : Exit → Act → World → Prop) (a : Act) (slots : List Nat) (I : (Nat → Bool) → (Nat → Value) → World → Prop) (i : Nat) (o : Oper) : Prop :=
  (o.guard = none ∧ (o.dst.all fun s => slots.contains s) = true) ∧ ∀ d u w, I d u w → d i = false → (∀ k ∈ deps o, d k = true) → ∀ K : Act → World → Prop, (∀ v w', I (upd d i) (updv u o.dst v) w' → K ((puts a slots u).put o.dst v) w') → Oper.wp P o (puts a slots u) w K Q
def Steps (P : Program) (Q : Exit → Act → World → Prop) (a : Act) (slots : List Nat) (I : (Nat → Bool) → (Nat → Value) → World → Prop) : Nat → List Oper → Prop
  | _, [] => True
  | i, o :: os => StepAt P Q a slots I i o ∧ Steps P Q a slots I (i + 1) os
theorem Steps.at {P : Program} {Q : Exit → Act → World → Prop} {a : Act} {slots : List Nat} {I : (Nat → Bool) → (Nat → Value) → World → Prop} : ∀ (os : List Oper) (n : Nat), Steps P Q a slots I n os → ∀ i o, os[i]? = some o → StepAt P Q a slots I (n + i) o
  | [], _, _, i, o, h => by simp at h
  | o :: os, n, hs, 0, o', h => by simp at h; subst h; exact hs.1
  | o :: os, n, hs, i + 1, o', h => by
    have := Steps.at os (n + 1) hs.2 i o' (by simpa using h)
    rwa [show n + (i + 1) = n + 1 + i by omega]
theorem mem_ready {ops : Array Oper} {l : Array Bool} {i : Nat} (hl : l.size = ops.size) : i ∈ Region.ready .any ops l ↔ ∃ o, ops[i]? = some o ∧ l.getD i false = false ∧ ∀ k ∈ deps o, l.getD k false = true := by
  unfold Region.ready deps
  rw [List.mem_filter, List.mem_range]
  constructor
  · rintro ⟨h1, h2⟩
    have ho : ops[i]? = some (ops[i]'h1) := Array.getElem?_eq_getElem h1
    rw [ho] at h2
    simp only [Bool.and_eq_true, Bool.not_eq_true', Option.map_some, Option.getD_some, Array.all_eq_true_iff_forall_mem, Bool.or_eq_true] at h2
    refine ⟨_, ho, by rw [← h2.1]; simp [Array.getD, hl, h1], fun k hk => ?_⟩
    obtain ⟨e, he, rfl⟩ := List.mem_map.1 hk
    obtain ⟨he1, he2⟩ := List.mem_filter.1 he
    rcases h2.2 e (by simpa using he1) with h | h
    · rw [he2] at h; cases h
    · exact h
  · rintro ⟨o, ho, h1, h2⟩
    have hi : i < ops.size := (Array.getElem?_eq_some_iff.1 ho).1
    refine ⟨hi, ?_⟩
    rw [ho]
    simp only [Bool.and_eq_true, Bool.not_eq_true', Option.map_some, Option.getD_some, Array.all_eq_true_iff_forall_mem, Bool.or_eq_true]
    refine ⟨by rw [← h1]; simp [Array.getD, hl, hi], fun e he => ?_⟩
    cases hb : Region.binds .any e with
    | false => exact .inl rfl
    | true => exact .inr (h2 _ (List.mem_map.2 ⟨e, List.mem_filter.2 ⟨by simpa using he, hb⟩, rfl⟩))
theorem ready_nil {ops : Array Oper} {l : Array Bool} (hl : l.size = ops.size) (hb : backs ops = true) (h : Region.ready .any ops l = []) : ∀ i, i < ops.size → l.getD i false = true := by
  intro i
  induction i using Nat.strongRecOn with
  | ind i ih =>
    intro hi
    cases hd : l.getD i false with
    | true => rfl
    | false =>
      have ho : ops[i]? = some (ops[i]'hi) := Array.getElem?_eq_getElem hi
      have h3 := List.all_eq_true.1 hb i (List.mem_range.2 hi)
      rw [ho] at h3
      simp only [Option.map_some, Option.getD_some] at h3
      have : i ∈ Region.ready .any ops l := (mem_ready hl).2 ⟨_, ho, hd, fun k hk => by
        have h4 := of_decide_eq_true (List.all_eq_true.1 h3 k hk)
        exact ih k h4 (by omega)⟩
      rw [h] at this; cases this
theorem any_inv {P : Program} {ops : Array Oper} {Q : Exit → Act → World → Prop} (a : Act) (slots : List Nat) (hnd : slots.Nodup) (hb : backs ops = true) (I : (Nat → Bool) → (Nat → Value) → World → Prop)
    (hstep : Steps P Q a slots I 0 ops.toList) (hend : ∀ d u w, I d u w → (∀ i, i < ops.size → d i = true) → Q .normal (puts a slots u) w) :
    ∀ (fuel : Nat) (l : Array Bool) (u : Nat → Value) (w : World), l.size = ops.size → l.toList.count false ≤ fuel → I (fun i => l.getD i false) u w → wpAny P .any ops Q fuel l (puts a slots u) w := by
  intro fuel
  induction fuel with
  | zero =>
    intro l u w hl hc hI
    have hall : ∀ i, i < ops.size → l.getD i false = true := fun i hi => by
      cases hd : l.getD i false with
      | true => rfl
      | false =>
        have hm : false ∈ l.toList := by
          have e : l[i]'(by omega) = false := by rw [← hd]; simp [Array.getD, hl, hi]
          rw [← e]; simp
        have := List.count_pos_iff.2 hm
        omega
    refine ⟨?_, hend _ _ _ hI hall⟩
    rw [List.eq_nil_iff_forall_not_mem]
    intro i hi
    obtain ⟨o, ho, h1, _⟩ := (mem_ready hl).1 hi
    rw [hall i (Array.getElem?_eq_some_iff.1 ho).1] at h1
    cases h1
  | succ fuel ih =>
    intro l u w hl hc hI
    refine ⟨fun h => hend _ _ _ hI (ready_nil hl hb h), fun i hi => ?_⟩
    obtain ⟨o, ho, h1, h2⟩ := (mem_ready hl).1 hi
    have hi' : i < ops.size := (Array.getElem?_eq_some_iff.1 ho).1
    obtain ⟨⟨hg, hs⟩, hst⟩ := Steps.at ops.toList 0 hstep i o (by simpa using ho)
    rw [Nat.zero_add] at hst
    refine wpOp_step ho fun K hK => ?_
    have hw : Region.wanted o (yielded ops (puts a slots u).tmps) = true := by simp [Region.wanted, hg]
    rw [if_pos hw]
    refine hst _ u w hI h1 h2 K fun v w' hI' => hK _ _ ?_
    have e1 : upd (fun i => l.getD i false) i = fun k => (l.setIfInBounds i true).getD k false := by
      funext k
      by_cases hk : k = i
      · subst hk; rw [upd_self]; simp [Array.getD, hl, hi']
      · rw [upd_ne _ hk]
        simp only [Array.getD, Array.size_setIfInBounds]
        split
        · exact (Array.getElem_setIfInBounds_ne (by assumption) (fun q => hk q.symm)).symm
        · rfl
    rw [e1] at hI'
    have e2 : (puts a slots u).put o.dst v = puts a slots (updv u o.dst v) := by
      cases hd : o.dst with
      | none => rfl
      | some s => rw [hd] at hs; exact puts_put slots a u s v hnd (by simpa using hs)
    rw [e2]
    refine ih _ _ _ (by simp [hl]) ?_ hI'
    have hlt : i < l.toList.length := by simp [hl, hi']
    have e3 : l.toList[i]'hlt = false := by rw [← h1]; simp [Array.getD, hl, hi']
    have h4 : 0 < l.toList.count false := List.count_pos_iff.2 (by rw [← e3]; exact List.getElem_mem _)
    rw [Array.toList_setIfInBounds, List.count_set hlt, e3]
    show l.toList.count false - 1 + 0 ≤ fuel
    omega
/-- a region that draws its order, by an invariant -/
theorem region_inv {P : Program} {id : Nat} {ops : Array Oper} {Q : Exit → Act → World → Prop} {a : Act} {w : World} (hm : P.follows .mixedOrders = true) (slots : List Nat) (hnd : slots.Nodup) (hb : backs ops = true)
    (I : (Nat → Bool) → (Nat → Value) → World → Prop) (h0 : I (fun _ => false) (fun s => a.tmps.getD s undef) w.drew) (hstep : Steps P Q a slots I 0 ops.toList)
    (hend : ∀ d u w, I d u w → (∀ i, i < ops.size → d i = true) → Q .normal (puts a slots u) w) : (Code.region id ops true).wp P Q a w := by
  refine wp_region_any hm ?_
  have := any_inv a slots hnd hb I hstep hend ops.size (Array.replicate ops.size false) (fun s => a.tmps.getD s undef) w.drew (by simp) (by simp) (by
    have e : (fun i => (Array.replicate ops.size false).getD i false) = fun _ => false := by
      funext i
      simp [Array.getD]
    rw [e]; exact h0)
  rw [puts_self] at this
  exact this
end Go.Proofs.Ytpngbfmbjldieaa.Rg
