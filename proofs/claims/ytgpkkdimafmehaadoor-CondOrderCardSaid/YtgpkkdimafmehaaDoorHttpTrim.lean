/-
  PLAIN LAWS OF LAYER http: blanks at a value's ends; a row of a head as a field; names told by their letters.
-/
import Derived.Test.YtgpkkdimafmehaaDoorHttpMsg
import Derived.Lib.SlTrimSet
set_option linter.unusedVariables false
namespace Go.Proofs.YtgpkkdimafmehaaDoor.Ht
open Go.Lib

theorem dwh (l : Row) : ∀ x, (l.dropWhile bl).head? = some x → bl x = false := fun x hx => by
  have h := List.head?_dropWhile_not bl l
  rw [hx] at h
  simpa using h
theorem dw_nil : ∀ {l : Row}, l.dropWhile bl = [] ↔ ∀ x ∈ l, bl x = true
  | [] => by simp
  | c :: l => by
    rw [List.dropWhile_cons]
    cases hc : bl c with
    | true =>
      rw [if_pos rfl, dw_nil]
      simp [hc]
    | false =>
      rw [if_neg (by decide)]
      simp [hc]
theorem trim_trim (s : Row) : trim (trim s) = trim s := by
  unfold trim
  have e1 : (((s.dropWhile bl).reverse.dropWhile bl).reverse).dropWhile bl = ((s.dropWhile bl).reverse.dropWhile bl).reverse := by
    refine dropWhile_id fun x hx => ?_
    obtain ⟨u, hu⟩ := List.dropWhile_suffix (l := (s.dropWhile bl).reverse) bl
    have h2 : s.dropWhile bl = ((s.dropWhile bl).reverse.dropWhile bl).reverse ++ u.reverse := by
      have := congrArg List.reverse hu
      rw [List.reverse_append, List.reverse_reverse] at this
      exact this.symm
    refine dwh s x ?_
    rw [h2, List.head?_append, hx]; rfl
  rw [e1, List.reverse_reverse]
  congr 1
  exact dropWhile_id (dwh _)
theorem bl_in (c : UInt8) : ([32, 9] : Row).contains c = bl c := by
  unfold bl
  rw [Bool.eq_iff_iff]
  simp
theorem backs_head (x : UInt8) (r : Row) (hx : bl x = false) : ∃ t, ((x :: r).reverse.dropWhile bl).reverse = x :: t := by
  rw [List.reverse_cons, List.dropWhile_append]
  by_cases h : (r.reverse.dropWhile bl).isEmpty = true
  · rw [if_pos h, List.dropWhile_cons, if_neg (by rw [hx]; decide)]
    exact ⟨[], rfl⟩
  · rw [if_neg h, List.reverse_append]
    exact ⟨_, rfl⟩
theorem trimS_trim (l : Row) : Lib.trimS l [32, 9] = trim l := by
  unfold Lib.trimS Lib.trimLeftS Lib.trimRightS trim
  simp only [bl_in]
  show ((l.reverse.dropWhile bl).reverse).dropWhile bl = ((l.dropWhile bl).reverse.dropWhile bl).reverse
  have hp := List.takeWhile_append_dropWhile (p := bl) (l := l)
  have hall : ∀ c ∈ l.takeWhile bl, bl c = true := fun c hc => by
    have := List.all_takeWhile (p := bl) (l := l)
    exact List.all_eq_true.1 this c hc
  cases hd : l.dropWhile bl with
  | nil =>
    have h1 : ∀ c ∈ l, bl c = true := fun c hc => by
      rw [hd, List.append_nil] at hp
      exact hall c (by rw [hp]; exact hc)
    have h2 : l.reverse.dropWhile bl = [] := by
      rw [dw_nil]
      intro c hc
      exact h1 c (List.mem_reverse.1 hc)
    rw [h2]; rfl
  | cons x r =>
    have hx : bl x = false := dwh l x (by rw [hd]; rfl)
    obtain ⟨t, ht⟩ := backs_head x r hx
    rw [ht]
    have e : (l.reverse.dropWhile bl).reverse = l.takeWhile bl ++ x :: t := by
      conv => lhs; rw [← hp, hd]
      rw [List.reverse_append, List.dropWhile_append]
      have hne : ¬ ((x :: r).reverse.dropWhile bl).isEmpty = true := fun h => by
        rw [List.isEmpty_iff] at h
        rw [h] at ht; cases ht
      rw [if_neg hne, List.reverse_append, List.reverse_reverse, ht]
    rw [e, List.dropWhile_append]
    have h2 : (l.takeWhile bl).dropWhile bl = [] := by
      rw [dw_nil]
      exact fun c hc => hall c hc
    rw [h2, if_pos (by rfl), List.dropWhile_cons, if_neg (by rw [hx]; decide)]
end Go.Proofs.YtgpkkdimafmehaaDoor.Ht
