/-
  PLAIN LAWS OF LAYER http: a head found by the place of 13 10 13 10, and its rows by a split at 13 10: the same as 'hdA'. Nothing of the program is run here.
-/
import Derived.Test.YtiaollhiggeolaaDoorHttpPlain
import Derived.Lib.SplitLaws
import Derived.Lib.IndexMore
set_option linter.unusedVariables false
namespace Go.Proofs.YtiaollhiggeolaaDoor.Ht
open Go.Lib

def rS : Row := [13, 10]
def qS : Row := [13, 10, 13, 10]
theorem cutR_index : ∀ l : Row, (cutR l = none ∧ Lib.index l rS = -1) ∨ ∃ k : Nat, Lib.index l rS = k ∧ cutR l = some (l.take k, l.drop (k + 2))
  | [] => .inl ⟨rfl, rfl⟩
  | [x] => by
    left
    refine ⟨rfl, ?_⟩
    unfold Lib.index
    rw [if_neg (by simp [rS, List.isPrefixOf])]
    rfl
  | x :: y :: r => by
    by_cases h : x = 13 ∧ y = 10
    · right
      refine ⟨0, ?_, ?_⟩
      · unfold Lib.index
        rw [if_pos (by simp [rS, List.isPrefixOf, h.1, h.2])]; rfl
      · rw [cutR, if_pos h]; simp
    · have hp : ¬ (rS.isPrefixOf (x :: y :: r) = true) := by
        simp only [rS, List.isPrefixOf, Bool.and_true, Bool.and_eq_true, beq_iff_eq]
        exact fun e => h ⟨e.1.symm, e.2.symm⟩
      have e1 : Lib.index (x :: y :: r) rS = if (Lib.index (y :: r) rS == -1) = true then -1 else Lib.index (y :: r) rS + 1 := by
        conv => lhs; unfold Lib.index
        rw [if_neg hp]
      have e2 : cutR (x :: y :: r) = (cutR (y :: r)).map fun p => (x :: p.1, p.2) := by rw [cutR, if_neg h]
      rcases cutR_index (y :: r) with ⟨h1, h2⟩ | ⟨k, h1, h2⟩
      · left
        rw [e1, e2, h1, h2]; exact ⟨rfl, rfl⟩
      · right
        refine ⟨k + 1, ?_, ?_⟩
        · rw [e1, h1, if_neg (by simp)]; omega
        · rw [e2, h2]; rfl
/-- all rows of a text, parted at each end -/
def splF : Nat → Row → List Row
  | 0, t => [t]
  | n + 1, t => match cutR t with
    | none => [t]
    | some p => p.1 :: splF n p.2
theorem splF_fuel : ∀ (n m : Nat) (t : Row), t.length < n → t.length < m → splF n t = splF m t
  | 0, _, _, h, _ => by omega
  | _ + 1, 0, _, _, h => by omega
  | n + 1, m + 1, t, h1, h2 => by
    unfold splF
    cases hc : cutR t with
    | none => rfl
    | some p =>
      obtain ⟨a, r⟩ := p
      have := cutR_len hc
      simp only
      rw [splF_fuel n m r (by omega) (by omega)]
def spl (t : Row) : List Row := splF (t.length + 1) t
theorem spl_none {t : Row} (h : cutR t = none) : spl t = [t] := by
  unfold spl splF
  rw [h]
theorem spl_some {t a r : Row} (h : cutR t = some (a, r)) : spl t = a :: spl r := by
  have := cutR_len h
  unfold spl
  conv => lhs; unfold splF
  rw [h]
  simp only
  rw [splF_fuel t.length (r.length + 1) r (by omega) (by omega)]
theorem spl_ne (t : Row) : spl t ≠ [] := by
  cases h : cutR t with
  | none => rw [spl_none h]; simp
  | some p => rw [spl_some (a := p.1) (r := p.2) h]; simp
theorem split_spl : ∀ (n : Nat) (t : Row), t.length < n → Lib.splitK rS 0 (Lib.count t rS) t = spl t
  | 0, _, h => by omega
  | n + 1, t, h => by
    rcases cutR_index t with ⟨h1, h2⟩ | ⟨k, h1, h2⟩
    · rw [Lib.count_miss h2, spl_none h1]; rfl
    · have hl := cutR_len h2
      rw [Lib.count_hit (by decide) h1, spl_some h2, Nat.add_comm 1]
      unfold Lib.splitK
      rw [if_neg (by rw [h1]; simp), h1]
      simp only [Int.toNat_natCast, Nat.add_zero]
      rw [show rS.length = 2 from rfl, split_spl n _ (by omega)]
theorem occ_rows {t : Row} {j : Nat} (h : Lib.occAt t qS j = true) : Lib.occAt t rS j = true := by
  unfold Lib.occAt at *
  rw [List.isPrefixOf_iff_prefix] at *
  exact List.IsPrefix.trans (by exact ⟨[13, 10], rfl⟩) h
theorem cutR_no {t : Row} (h : cutR t = none) (j : Nat) : Lib.occAt t rS j = false := by
  rcases cutR_index t with ⟨_, h2⟩ | ⟨k, _, h2⟩
  · by_cases hj : j ≤ t.length
    · rcases Lib.index_spec t rS with ⟨_, h3⟩ | ⟨i, h3, _⟩
      · exact h3 j hj
      · omega
    · unfold Lib.occAt
      rw [List.drop_of_length_le (by omega)]; rfl
  · rw [h] at h2; cases h2
theorem cutR_first {t a r : Row} (h : cutR t = some (a, r)) : ∀ j, j < a.length → Lib.occAt t rS j = false := by
  rcases cutR_index t with ⟨h2, _⟩ | ⟨k, h1, h2⟩
  · rw [h] at h2; cases h2
  · rw [h] at h2
    simp only [Option.some.injEq, Prod.mk.injEq] at h2
    rcases Lib.index_spec t rS with ⟨h3, _⟩ | ⟨i, h3, h4, _, h5⟩
    · omega
    · intro j hj
      refine h5 j ?_
      have : a.length ≤ k := by rw [h2.1, List.length_take]; omega
      omega
theorem occ_none {t : Row} {j : Nat} (h : Lib.occAt t rS j = false) : Lib.occAt t qS j = false := by
  cases hq : Lib.occAt t qS j with
  | false => rfl
  | true => rw [occ_rows hq] at h; cases h
theorem occ_shift (a r s : Row) (j : Nat) : Lib.occAt (a ++ r) s (a.length + j) = Lib.occAt r s j := by
  unfold Lib.occAt
  rw [List.drop_append, List.drop_of_length_le (by omega), List.nil_append, Nat.add_sub_cancel_left]
/-- no end of a row within what stands ahead of the first one -/
theorem cutR_ahead {t a r : Row} (h : cutR t = some (a, r)) : cutR a = none := by
  rcases cutR_index a with ⟨h1, _⟩ | ⟨k, h1, h2⟩
  · exact h1
  · exfalso
    have e := cutR_some h
    rcases Lib.index_spec a rS with ⟨h3, _⟩ | ⟨i, h3, h4, h5, _⟩
    · omega
    · have h6 : i < a.length := by
        rcases Lib.occAt_room h5 with h | h
        · simp [rS] at h; omega
        · cases h
      have h7 := cutR_first h i h6
      have h8 : Lib.occAt t rS i = true := by
        unfold Lib.occAt at h5 ⊢
        rw [List.isPrefixOf_iff_prefix] at h5 ⊢
        rw [e, List.drop_append_of_le_length (by omega)]
        exact List.IsPrefix.trans h5 (List.prefix_append _ _)
      rw [h7] at h8; cases h8
/-- with something else behind its first end a text is parted there too -/
theorem cutR_other {a : Row} (h : cutR (a ++ [13]) = none) (r : Row) : cutR (a ++ 13 :: 10 :: r) = some (a, r) := by
  rcases cutR_index (a ++ 13 :: 10 :: r) with ⟨h1, h2⟩ | ⟨k, h1, h2⟩
  · exfalso
    have := cutR_no h1 a.length
    have e := occ_shift a (13 :: 10 :: r) rS 0
    rw [Nat.add_zero, this] at e
    simp [Lib.occAt, rS, List.isPrefixOf] at e
  · have hk : k = a.length := by
      rcases Lib.index_spec (a ++ 13 :: 10 :: r) rS with ⟨h3, _⟩ | ⟨i, h3, h4, h5, h6⟩
      · omega
      · have hki : k = i := by omega
        subst hki
        rcases Nat.lt_trichotomy k a.length with hlt | he | hgt
        · exfalso
          have h7 := cutR_no h k
          unfold Lib.occAt at h5 h7
          rw [List.drop_append_of_le_length (by omega)] at h5 h7
          obtain ⟨x, y, hxy⟩ : ∃ x y, a.drop k = x :: y := by
            cases hd : a.drop k with
            | nil => have := congrArg List.length hd; simp at this; omega
            | cons x y => exact ⟨x, y, rfl⟩
          rw [hxy] at h5 h7
          cases y with
          | nil =>
            simp only [rS, List.cons_append, List.nil_append, List.isPrefixOf, Bool.and_eq_true, beq_iff_eq] at h5
            exact absurd h5.2.1 (by decide)
          | cons z y =>
            simp only [rS, List.cons_append, List.isPrefixOf, Bool.and_true] at h5 h7
            rw [h5] at h7; cases h7
        · exact he
        · exfalso
          have := h6 a.length hgt
          have e := occ_shift a (13 :: 10 :: r) rS 0
          rw [Nat.add_zero, this] at e
          simp [Lib.occAt, rS, List.isPrefixOf] at e
    subst hk
    rw [h2, List.take_left]
    congr 2
    rw [← List.drop_drop, List.drop_left]; rfl
theorem cutR_ahead13 {t a r : Row} (h : cutR t = some (a, r)) : cutR (a ++ [13]) = none := by
  rcases cutR_index (a ++ [13]) with ⟨h1, _⟩ | ⟨k, h1, h2⟩
  · exact h1
  · exfalso
    have e := cutR_some h
    rcases Lib.index_spec (a ++ [13]) rS with ⟨h3, _⟩ | ⟨i, h3, h4, h5, _⟩
    · omega
    · have h6 : i < a.length := by
        rcases Lib.occAt_room h5 with h | h
        · simp [rS] at h; omega
        · cases h
      have h7 := cutR_first h i h6
      have h8 : Lib.occAt t rS i = true := by
        unfold Lib.occAt at h5 ⊢
        rw [List.isPrefixOf_iff_prefix] at h5 ⊢
        rw [e, show a ++ 13 :: 10 :: r = (a ++ [13]) ++ 10 :: r by simp, List.drop_append_of_le_length (by simp; omega)]
        exact List.IsPrefix.trans h5 (List.prefix_append _ _)
      rw [h7] at h8; cases h8
/-- a head by its rows is a head by the place of its end -/
theorem hdA_index : ∀ (n : Nat) (t : Row), t.length < n → (hdA true t = none ∧ Lib.index t qS = -1) ∨ ∃ k : Nat, Lib.index t qS = k ∧ k + 4 ≤ t.length ∧ hdA true t = some (spl (t.take k), k + 4)
  | 0, _, h => by omega
  | n + 1, t, h => by
    cases hc : cutR t with
    | none =>
      left
      exact ⟨hdA_none hc, Lib.index_none fun j _ => occ_none (cutR_no hc j)⟩
    | some p =>
      obtain ⟨a, r⟩ := p
      have e := cutR_some hc
      have hl := cutR_len hc
      have hA : hdA true t = (hdA false r).map fun q => (a :: q.1, a.length + 2 + q.2) := by
        unfold hdA
        conv => lhs; unfold hd
        rw [hc, Option.bind_some]
        simp only
        rw [if_neg (by simp), hd_fuel _ (r.length + 1) false r (by omega) (by omega)]
      by_cases hr : rS.isPrefixOf r = true
      · right
        obtain ⟨r', rfl⟩ := List.isPrefixOf_iff_prefix.1 hr
        have hi : Lib.index t qS = (a.length : Int) := by
          refine Lib.index_first (by rw [e]; simp) ?_ (fun j hj => occ_none (cutR_first hc j hj))
          have := occ_shift a (13 :: 10 :: (rS ++ r')) qS 0
          rw [Nat.add_zero] at this
          rw [e, this]
          simp [Lib.occAt, rS, qS, List.isPrefixOf]
        refine ⟨a.length, hi, by rw [e]; simp [rS], ?_⟩
        rw [hA, show rS ++ r' = 13 :: 10 :: r' from rfl, hdA_end, e, List.take_left, spl_none (cutR_ahead hc)]; rfl
      · have hr0 : Lib.occAt r rS 0 = false := by
          unfold Lib.occAt
          rw [List.drop_zero]
          exact Bool.eq_false_iff.2 hr
        have hAf : hdA false r = hdA true r := by
          unfold hdA hd
          cases hcr : cutR r with
          | none => rfl
          | some p2 =>
            simp only [Option.bind_some]
            have hne : p2.1 ≠ [] := fun e2 => by
              have := cutR_some (a := p2.1) (r := p2.2) hcr
              rw [e2] at this
              rw [this] at hr
              exact hr (by simp [rS, List.isPrefixOf])
            rw [if_neg (fun e2 => hne e2.2), if_neg (fun e2 => hne e2.2)]
        have hno : ∀ j, j < a.length + 2 → Lib.occAt t qS j = false := fun j hj => by
          rcases Nat.lt_or_ge j a.length with h1 | h1
          · exact occ_none (cutR_first hc j h1)
          · obtain ⟨i, rfl⟩ : ∃ i, j = a.length + i := ⟨j - a.length, by omega⟩
            rw [e, occ_shift]
            have h2 : i = 0 ∨ i = 1 := by omega
            rcases h2 with rfl | rfl
            · cases hq : Lib.occAt (13 :: 10 :: r) qS 0 with
              | false => rfl
              | true =>
                exfalso
                simp only [Lib.occAt, qS, List.drop_zero, List.isPrefixOf, Bool.and_eq_true] at hq
                have : rS.isPrefixOf r = true := by
                  obtain ⟨_, _, hq⟩ := hq
                  exact hq
                exact hr this
            · simp [Lib.occAt, qS, List.isPrefixOf]
        have hsh : ∀ j, Lib.occAt t qS (a.length + 2 + j) = Lib.occAt r qS j := fun j => by
          have h1 := occ_shift (a ++ [13, 10]) r qS j
          have h2 : (a ++ [13, 10]).length = a.length + 2 := by simp
          have h3 : a ++ [13, 10] ++ r = t := by rw [e]; simp
          rw [h2, h3] at h1
          exact h1
        have hlen : t.length = a.length + 2 + r.length := by rw [e]; simp; omega
        rcases hdA_index n r (by omega) with ⟨h1, h2⟩ | ⟨k, h1, h2, h3⟩
        · left
          refine ⟨by rw [hA, hAf, h1]; rfl, Lib.index_none fun j hj => ?_⟩
          rcases Nat.lt_or_ge j (a.length + 2) with h3 | h3
          · exact hno j h3
          · obtain ⟨i, rfl⟩ : ∃ i, j = a.length + 2 + i := ⟨j - (a.length + 2), by omega⟩
            rw [hsh]
            rcases Lib.index_spec r qS with ⟨_, h4⟩ | ⟨i, h4, _⟩
            · exact h4 i (by omega)
            · omega
        · right
          refine ⟨a.length + 2 + k, ?_, by omega, ?_⟩
          · rcases Lib.index_spec r qS with ⟨h4, _⟩ | ⟨i, h4, h5, h6, h7⟩
            · omega
            · have hik : i = k := by omega
              subst hik
              have := Lib.index_first (s := t) (sub := qS) (i := a.length + 2 + i) (by omega) (by rw [hsh]; exact h6) (fun j hj => by
                rcases Nat.lt_or_ge j (a.length + 2) with h8 | h8
                · exact hno j h8
                · obtain ⟨i2, rfl⟩ : ∃ i2, j = a.length + 2 + i2 := ⟨j - (a.length + 2), by omega⟩
                  rw [hsh]
                  exact h7 i2 (by omega))
              rw [this]
          · have ht : t.take (a.length + 2 + k) = a ++ 13 :: 10 :: r.take k := by
              rw [e, List.take_append, List.take_of_length_le (by omega), show a.length + 2 + k - a.length = k + 2 by omega]; rfl
            rw [hA, hAf, h3, ht, spl_some (cutR_other (cutR_ahead13 hc) _)]
            simp; omega
end Go.Proofs.YtiaollhiggeolaaDoor.Ht
