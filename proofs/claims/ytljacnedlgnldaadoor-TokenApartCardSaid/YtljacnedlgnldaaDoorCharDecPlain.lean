/-
  PLAIN LAWS OF NUMERALS: what 'Lib.decDigits' writes is read back ('numS'); numerals keep the numbers' order.
-/
import Derived.Test.YtljacnedlgnldaaDoorCharPlain
set_option linter.unusedVariables false
namespace Go.Proofs.YtljacnedlgnldaaDoor.Ch
open Go.Lib

theorem digit_val (d : Nat) (h : d < 10) : (UInt8.ofNat (48 + d)).toNat = 48 + d := by
  rw [UInt8.toNat_ofNat']
  omega
theorem dec_small {u : Nat} (h : u < 10) : decDigits u = [UInt8.ofNat (48 + u)] := by rw [decDigits, dif_pos h]
theorem dec_big {u : Nat} (h : ¬ u < 10) : decDigits u = decDigits (u / 10) ++ [UInt8.ofNat (48 + u % 10)] := by rw [decDigits, dif_neg h]
theorem dec_ne (u : Nat) : decDigits u ≠ [] := by
  by_cases h : u < 10
  · rw [dec_small h]; simp
  · rw [dec_big h]; simp
theorem numV_dec (u : Nat) : numV (decDigits u) = u := by
  induction u using Nat.strongRecOn with
  | _ u ih =>
    by_cases h : u < 10
    · rw [dec_small h]
      simp only [numV, List.foldl_cons, List.foldl_nil, numF]
      rw [digit_val u h]
      omega
    · rw [dec_big h, numV_snoc, ih (u / 10) (by omega), digit_val _ (Nat.mod_lt _ (by omega))]
      omega
theorem all_dec (u : Nat) : (decDigits u).all isD = true := by
  induction u using Nat.strongRecOn with
  | _ u ih =>
    by_cases h : u < 10
    · rw [dec_small h]
      simp only [List.all_cons, List.all_nil, Bool.and_true]
      unfold isD
      rw [digit_val u h]
      exact decide_eq_true (by omega)
    · rw [dec_big h, List.all_append, ih (u / 10) (by omega)]
      simp only [List.all_cons, List.all_nil, Bool.and_true, Bool.true_and]
      unfold isD
      rw [digit_val _ (Nat.mod_lt _ (by omega))]
      exact decide_eq_true (by omega)
theorem dec_first (u : Nat) (h : 1 ≤ u) : 49 ≤ ((decDigits u).getD 0 0).toNat := by
  induction u using Nat.strongRecOn with
  | _ u ih =>
    by_cases h10 : u < 10
    · rw [dec_small h10]
      show 49 ≤ (UInt8.ofNat (48 + u)).toNat
      rw [digit_val u h10]
      omega
    · rw [dec_big h10, getD_append _ _ 0 (List.length_pos_iff.2 (dec_ne _))]
      exact ih (u / 10) (by omega) (by omega)
theorem lead0_dec (u : Nat) : lead0 (decDigits u) = false := by
  unfold lead0
  by_cases h : u < 10
  · rw [dec_small h]; rfl
  · have := dec_first u (by omega)
    exact decide_eq_false (by omega)
theorem numS_dec (u m : Nat) : numS (decDigits u) m = if u ≤ m then (u, true) else (0, false) := by
  by_cases h : u ≤ m
  · rw [numS_yes (dec_ne u) (lead0_dec u) (all_dec u) (by rw [numV_dec]; exact h), numV_dec, if_pos h]
  · rw [if_neg h]
    unfold numS
    rw [if_neg]
    intro hh
    have := hh.2
    rw [numV_dec] at this
    exact h this
theorem dec_inj {a b : Nat} (h : decDigits a = decDigits b) : a = b := by rw [← numV_dec a, ← numV_dec b, h]

/-! ### the order of numerals -/
theorem nDigits_mono : ∀ (b a : Nat), a ≤ b → nDigits a ≤ nDigits b := by
  intro b
  induction b using Nat.strongRecOn with
  | _ b ih =>
    intro a hab
    by_cases h : a < 10
    · rw [nDigits_small h]; exact nDigits_pos b
    · rw [nDigits_big h, nDigits_big (show ¬ b < 10 by omega)]
      have := ih (b / 10) (by omega) (a / 10) (by omega)
      omega
theorem foldl_from (l : List UInt8) : ∀ n, l.foldl numF n = n * 10 ^ l.length + numV l := by
  induction l with
  | nil => intro n; simp [numV]
  | cons c l ih =>
    intro n
    have h0 : numV (c :: l) = l.foldl numF (numF 0 c) := rfl
    rw [List.foldl_cons, ih, h0, ih, List.length_cons, Nat.pow_succ]
    unfold numF
    rw [Nat.mul_zero, Nat.zero_add, Nat.add_mul, ← Nat.add_assoc, Nat.mul_comm 10 n, Nat.mul_assoc, Nat.mul_comm 10 (10 ^ l.length)]
theorem numV_cons (c : UInt8) (l : List UInt8) : numV (c :: l) = (c.toNat - 48) * 10 ^ l.length + numV l := by
  have h0 : numV (c :: l) = l.foldl numF (numF 0 c) := rfl
  rw [h0, foldl_from]
  unfold numF
  rw [Nat.mul_zero, Nat.zero_add]
theorem numV_lt (l : List UInt8) (h : l.all isD = true) : numV l < 10 ^ l.length := by
  induction l with
  | nil => simp [numV]
  | cons c l ih =>
    simp only [List.all_cons, Bool.and_eq_true] at h
    have h1 := ih h.2
    have h2 := of_decide_eq_true h.1
    rw [numV_cons, List.length_cons, Nat.pow_succ]
    have h3 : (c.toNat - 48) * 10 ^ l.length ≤ 9 * 10 ^ l.length := Nat.mul_le_mul_right _ (by omega)
    omega
/-- digits of one length are compared as their numbers are, byte by byte -/
theorem less_num : ∀ (x y : List UInt8), x.length = y.length → x.all isD = true → y.all isD = true → Op.bytesLess x y = decide (numV x < numV y)
  | [], [], _, _, _ => rfl
  | [], _ :: _, h, _, _ => by simp at h
  | _ :: _, [], h, _, _ => by simp at h
  | c :: x, d :: y, h, hx, hy => by
    simp only [List.all_cons, Bool.and_eq_true] at hx hy
    have hl : x.length = y.length := by simpa using h
    have ih := less_num x y hl hx.2 hy.2
    have h1 := numV_lt x hx.2
    have h2 := numV_lt y hy.2
    have c1 := of_decide_eq_true hx.1
    have d1 := of_decide_eq_true hy.1
    rw [numV_cons, numV_cons, Op.bytesLess, ih]
    rw [hl] at h1 ⊢
    generalize 10 ^ y.length = p at h1 h2 ⊢
    generalize numV x = u at h1 ⊢
    generalize numV y = v at h2 ⊢
    by_cases e : c = d
    · subst e
      have e1 : decide (c < c) = false := decide_eq_false (UInt8.lt_irrefl c)
      rw [e1, beq_self_eq_true, Bool.false_or, Bool.true_and]
      exact decide_eq_decide.2 (by omega)
    · have e2 : (c == d) = false := by simpa using e
      rw [e2, Bool.false_and, Bool.or_false]
      have hne : c.toNat ≠ d.toNat := fun h => e (UInt8.toNat_inj.1 h)
      refine decide_eq_decide.2 ?_
      rw [UInt8.lt_iff_toNat_lt]
      constructor
      · intro hcd
        have : (c.toNat - 48 + 1) * p ≤ (d.toNat - 48) * p := Nat.mul_le_mul_right _ (by omega)
        rw [Nat.add_mul, Nat.one_mul] at this
        omega
      · intro hlt
        rcases Nat.lt_or_ge c.toNat d.toNat with h3 | h3
        · exact h3
        · have : (d.toNat - 48 + 1) * p ≤ (c.toNat - 48) * p := Nat.mul_le_mul_right _ (by omega)
          rw [Nat.add_mul, Nat.one_mul] at this
          omega
/-- 'fewer digits, or as many and the lesser text': just the lesser number -/
theorem dec_less (a b : Nat) : (decide (nDigits a < nDigits b) || (nDigits a == nDigits b && Op.bytesLess (decDigits a) (decDigits b))) = decide (a < b) := by
  have hm := nDigits_mono a b
  have hm' := nDigits_mono b a
  by_cases h : nDigits a = nDigits b
  · rw [less_num _ _ (by rw [decDigits_length, decDigits_length, h]) (all_dec a) (all_dec b), numV_dec, numV_dec, h]
    simp
  · have e : (nDigits a == nDigits b) = false := by simpa using h
    rw [e, Bool.false_and, Bool.or_false]
    exact decide_eq_decide.2 (by omega)
end Go.Proofs.YtljacnedlgnldaaDoor.Ch
