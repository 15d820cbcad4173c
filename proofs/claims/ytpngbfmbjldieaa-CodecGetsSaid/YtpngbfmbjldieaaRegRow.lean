/-
  OPERATIONS OF A REGION WHOSE FRAME IS 'puts' (RegInv): each run at a frame that is not written out.
-/
import Derived.Test.YtpngbfmbjldieaaRegInv
import Derived.WalkKit
import Derived.Tactics2
set_option linter.unusedVariables false
namespace Go.Proofs.Ytpngbfmbjldieaa.Rg
open Go

theorem puts_tmps (slots : List Nat) : ∀ (a : Act) (u : Nat → Value) (t : Nat), t ∉ slots → (puts a slots u).tmps.getD t undef = a.tmps.getD t undef := by
  induction slots with
  | nil => intro a u t _; rfl
  | cons s ts ih =>
    intro a u t h
    show (puts (a.put (some s) (u s)) ts u).tmps.getD t undef = _
    rw [ih _ _ _ (fun q => h (by simp [q]))]
    have hne : t ≠ s := fun q => h (by simp [q])
    show (a.tmps.setIfInBounds s (u s)).getD t undef = a.tmps.getD t undef
    simp only [Array.getD, Array.size_setIfInBounds]
    split
    · exact Array.getElem_setIfInBounds_ne (by assumption) (fun q => hne q.symm)
    · rfl
theorem puts_size (slots : List Nat) : ∀ (a : Act) (u : Nat → Value), (puts a slots u).tmps.size = a.tmps.size := by
  induction slots with
  | nil => intro a u; rfl
  | cons s ts ih =>
    intro a u
    show (puts (a.put (some s) (u s)) ts u).tmps.size = _
    rw [ih]
    exact Array.size_setIfInBounds
/-- a slot that the region does not write -/
theorem eval_old {a : Act} {slots : List Nat} {u : Nat → Value} {t : Nat} {v : Value} (h : slots.contains t = false) (hv : a.eval (.tmp t) = v) : (puts a slots u).eval (.tmp t) = v := by
  rw [← hv]
  exact puts_tmps slots a u t (by simpa using h)
/-- a slot that it writes -/
theorem eval_new {a : Act} {slots : List Nat} {u : Nat → Value} {t : Nat} (hn : slots.Nodup) (h : slots.contains t = true) (ht : t < a.tmps.size) : (puts a slots u).eval (.tmp t) = u t := by
  have h1 : (puts a slots u) = (puts a slots u).put (some t) (u t) := by
    rw [puts_put slots a u t (u t) hn (by simpa using h)]
    refine puts_congr slots a _ _ fun s _ => ?_
    by_cases hs : s = t
    · subst hs; rw [updv_self]
    · rw [updv_ne _ _ hs]
  rw [h1]
  show ((puts a slots u).tmps.setIfInBounds t (u t)).getD t undef = u t
  simp [Array.getD, puts_size, ht]
/-- an operation that yields a value -/
theorem wp_yields {P : Program} {o : Oper} {a : Act} {w w' : World} {K : Act → World → Prop} {Q : Exit → Act → World → Prop} {ds : Option Nat} (hds : o.dst = ds) (v : Value) (hr : (execOp a.eval o).run P w = .ok (.value v) w') (hk : K (a.put ds v) w') : Oper.wp P o a w K Q := by
  unfold Oper.wp
  rw [hr]
  rw [← hds] at hk
  exact hk
/-- an operation that yields nothing -/
theorem wp_skips {P : Program} {o : Oper} {a : Act} {w w' : World} {K : Act → World → Prop} {Q : Exit → Act → World → Prop} {ds : Option Nat} (hds : o.dst = ds) (hr : (execOp a.eval o).run P w = .ok .skip w') (hk : K (a.put ds undef) w') : Oper.wp P o a w K Q := by
  unfold Oper.wp
  rw [hr]
  rw [← hds] at hk
  exact hk
end Go.Proofs.Ytpngbfmbjldieaa.Rg
