/-
  THE go_enter Tryd.func7, Tryd.ntmps7
    go_wp2_with fail
    go_at_call 8
    refine (first_any w hT'.out).mono ?_
    rintro e w1 ⟨rfl, hb1⟩
    go_wp2_with fail
    go_at_call 18
    refine (cA w1 hb1).mono ?_
    rintro e w2 ⟨rfl, hb2⟩
    replace hb2 := below_then hb1 hb2
    clear hb1
    go_wp2_with fail
    go_at_call 18
    refine (cB w2 hb2).mono ?_
    rintro e w3 ⟨rfl, hb3⟩
    replace hb3 := below_then hb2 hb3
    clear hb2
    go_wp2_with fail
    go_at_call 16
    refine (cN w3).mono ?_
    rintro e wx ⟨rfl, rfl⟩
    go_wp2
    go_ret
    exact ⟨rfl, hb3⟩ OF THE STATEMENT CharOrder.
-/
import Derived.Test.YtaalmjcanidnpaaDoorCharNumbers
set_option linter.unusedVariables false
namespace Go.Proofs.YtaalmjcanidnpaaDoor.Ch
open Go.Lib Go.RowKit

theorem less_irrefl : ∀ l : List UInt8, Op.bytesLess l l = false
  | [] => rfl
  | c :: l => by
    rw [Op.bytesLess, less_irrefl l, Bool.and_false, Bool.or_false]
    exact decide_eq_false (UInt8.lt_irrefl c)

/-- The walk, over the two numerals as lists and what is known of them. -/
def OrderFacts (a b : Nat) (x y : List UInt8) (ok : Bool) : Prop :=
  (a < b ∧ ok = true ∧ (x == y) = false ∧ (x.length < y.length ∨ x.length = y.length ∧ Op.bytesLess x y = true)) ∨
  (a = b ∧ ok = true ∧ x = y) ∨
  (b < a ∧ ok = false ∧ (x == y) = false ∧ (y.length < x.length ∨ x.length = y.length ∧ Op.bytesLess x y = false))

set_option maxHeartbeats 8000000 in
set_option maxRecDepth 100000 in
theorem order_core (a b v : Nat) (x y : List UInt8) (ok : Bool) (w : World) (ha : a ≤ 18446744073709551615) (hb : b ≤ 18446744073709551615) (hT : Tabs w) (hF : OrderFacts a b x y ok)
    (cA : ∀ W, Below w.heap.size w W → Calls Tryd.prog 18 #[.int .u64 (a : Int)] W fun e w' => e = .returned (.string ⟨x.toArray⟩) ∧ Below W.heap.size W w')
    (cB : ∀ W, Below w.heap.size w W → Calls Tryd.prog 18 #[.int .u64 (b : Int)] W fun e w' => e = .returned (.string ⟨y.toArray⟩) ∧ Below W.heap.size W w')
    (cN : ∀ W, Calls Tryd.prog 16 #[.string ⟨x.toArray⟩, .int .u64 (b : Int)] W fun e w' => e = .returned (.tuple #[.int .u64 (v : Int), .bool ok]) ∧ W = w') :
    Calls Tryd.prog 7 #[.int .u64 (a : Int), .int .u64 (b : Int)] w fun e w' => e = .returned (.bool true) ∧ Below w.heap.size w w' := by
  have hT' := Lib.hid hT
  clear hT
  rcases hF with ⟨h1, rfl, h3, h4 | ⟨h4, h5⟩⟩ | ⟨rfl, rfl, rfl⟩ | ⟨h1, rfl, h3, h4 | ⟨h4, h5⟩⟩
  · have d1 : decide ((a : Int) < (b : Int)) = true := decide_eq_true (by omega)
    have d1n : decide (a < b) = true := decide_eq_true (by omega)
    have d2 : decide ((a : Int) ≤ (b : Int)) = true := decide_eq_true (by omega)
    have d2n : decide (a ≤ b) = true := decide_eq_true (by omega)
    have d3 : ((a : Int) == (b : Int)) = false := beq_eq_false_iff_ne.2 (by omega)
    have d3n : (a == b) = false := beq_eq_false_iff_ne.2 (by omega)
    have d4 : decide ((x.length : Int) < (y.length : Int)) = true := decide_eq_true (by omega)
    have d4n : decide (x.length < y.length) = true := decide_eq_true (by omega)
    go_enter Tryd.func7, Tryd.ntmps7
    go_wp2_with fail
    go_at_call 8
    refine (first_any w hT'.out).mono ?_
    rintro e w1 ⟨rfl, hb1⟩
    go_wp2_with fail
    go_at_call 18
    refine (cA w1 hb1).mono ?_
    rintro e w2 ⟨rfl, hb2⟩
    replace hb2 := below_then hb1 hb2
    clear hb1
    go_wp2_with fail
    go_at_call 18
    refine (cB w2 hb2).mono ?_
    rintro e w3 ⟨rfl, hb3⟩
    replace hb3 := below_then hb2 hb3
    clear hb2
    go_wp2_with fail
    go_at_call 16
    refine (cN w3).mono ?_
    rintro e wx ⟨rfl, rfl⟩
    go_wp2
    go_ret
    exact ⟨rfl, hb3⟩
  · have d1 : decide ((a : Int) < (b : Int)) = true := decide_eq_true (by omega)
    have d1n : decide (a < b) = true := decide_eq_true (by omega)
    have d2 : decide ((a : Int) ≤ (b : Int)) = true := decide_eq_true (by omega)
    have d2n : decide (a ≤ b) = true := decide_eq_true (by omega)
    have d3 : ((a : Int) == (b : Int)) = false := beq_eq_false_iff_ne.2 (by omega)
    have d3n : (a == b) = false := beq_eq_false_iff_ne.2 (by omega)
    have d4 : decide ((x.length : Int) < (y.length : Int)) = false := decide_eq_false (by omega)
    have d4n : decide (x.length < y.length) = false := decide_eq_false (by omega)
    have d5 : ((x.length : Int) == (y.length : Int)) = true := by rw [h4]; simp
    have d5n : (x.length == y.length) = true := by rw [h4]; simp
    have h6 : y.length ≤ x.length := by omega
    have h4' := Lib.hid h4
    clear h4
    go_enter Tryd.func7, Tryd.ntmps7
    go_wp2_with fail
    go_at_call 8
    refine (first_any w hT'.out).mono ?_
    rintro e w1 ⟨rfl, hb1⟩
    go_wp2_with fail
    go_at_call 18
    refine (cA w1 hb1).mono ?_
    rintro e w2 ⟨rfl, hb2⟩
    replace hb2 := below_then hb1 hb2
    clear hb1
    go_wp2_with fail
    go_at_call 18
    refine (cB w2 hb2).mono ?_
    rintro e w3 ⟨rfl, hb3⟩
    replace hb3 := below_then hb2 hb3
    clear hb2
    go_wp2_with fail
    go_at_call 16
    refine (cN w3).mono ?_
    rintro e wx ⟨rfl, rfl⟩
    go_wp2
    go_ret
    exact ⟨rfl, hb3⟩
  · have d5 := less_irrefl x
    go_enter Tryd.func7, Tryd.ntmps7
    go_wp2_with fail
    go_at_call 8
    refine (first_any w hT'.out).mono ?_
    rintro e w1 ⟨rfl, hb1⟩
    go_wp2_with fail
    go_at_call 18
    refine (cA w1 hb1).mono ?_
    rintro e w2 ⟨rfl, hb2⟩
    replace hb2 := below_then hb1 hb2
    clear hb1
    go_wp2_with fail
    go_at_call 18
    refine (cB w2 hb2).mono ?_
    rintro e w3 ⟨rfl, hb3⟩
    replace hb3 := below_then hb2 hb3
    clear hb2
    go_wp2_with fail
    go_at_call 16
    refine (cN w3).mono ?_
    rintro e wx ⟨rfl, rfl⟩
    go_wp2
    go_ret
    exact ⟨rfl, hb3⟩
  · have d1 : decide ((a : Int) < (b : Int)) = false := decide_eq_false (by omega)
    have d1n : decide (a < b) = false := decide_eq_false (by omega)
    have d2 : decide ((a : Int) ≤ (b : Int)) = false := decide_eq_false (by omega)
    have d2n : decide (a ≤ b) = false := decide_eq_false (by omega)
    have d3 : ((a : Int) == (b : Int)) = false := beq_eq_false_iff_ne.2 (by omega)
    have d3n : (a == b) = false := beq_eq_false_iff_ne.2 (by omega)
    have d4 : decide ((x.length : Int) < (y.length : Int)) = false := decide_eq_false (by omega)
    have d4n : decide (x.length < y.length) = false := decide_eq_false (by omega)
    have d5 : ((x.length : Int) == (y.length : Int)) = false := beq_eq_false_iff_ne.2 (by omega)
    have d5n : (x.length == y.length) = false := beq_eq_false_iff_ne.2 (by omega)
    go_enter Tryd.func7, Tryd.ntmps7
    go_wp2_with fail
    go_at_call 8
    refine (first_any w hT'.out).mono ?_
    rintro e w1 ⟨rfl, hb1⟩
    go_wp2_with fail
    go_at_call 18
    refine (cA w1 hb1).mono ?_
    rintro e w2 ⟨rfl, hb2⟩
    replace hb2 := below_then hb1 hb2
    clear hb1
    go_wp2_with fail
    go_at_call 18
    refine (cB w2 hb2).mono ?_
    rintro e w3 ⟨rfl, hb3⟩
    replace hb3 := below_then hb2 hb3
    clear hb2
    go_wp2_with fail
    go_at_call 16
    refine (cN w3).mono ?_
    rintro e wx ⟨rfl, rfl⟩
    go_wp2
    go_ret
    exact ⟨rfl, hb3⟩
  · have d1 : decide ((a : Int) < (b : Int)) = false := decide_eq_false (by omega)
    have d1n : decide (a < b) = false := decide_eq_false (by omega)
    have d2 : decide ((a : Int) ≤ (b : Int)) = false := decide_eq_false (by omega)
    have d2n : decide (a ≤ b) = false := decide_eq_false (by omega)
    have d3 : ((a : Int) == (b : Int)) = false := beq_eq_false_iff_ne.2 (by omega)
    have d3n : (a == b) = false := beq_eq_false_iff_ne.2 (by omega)
    have d4 : decide ((x.length : Int) < (y.length : Int)) = false := decide_eq_false (by omega)
    have d4n : decide (x.length < y.length) = false := decide_eq_false (by omega)
    have d5 : ((x.length : Int) == (y.length : Int)) = true := by rw [h4]; simp
    have d5n : (x.length == y.length) = true := by rw [h4]; simp
    have h6 : y.length ≤ x.length := by omega
    have h4' := Lib.hid h4
    clear h4
    go_enter Tryd.func7, Tryd.ntmps7
    go_wp2_with fail
    go_at_call 8
    refine (first_any w hT'.out).mono ?_
    rintro e w1 ⟨rfl, hb1⟩
    go_wp2_with fail
    go_at_call 18
    refine (cA w1 hb1).mono ?_
    rintro e w2 ⟨rfl, hb2⟩
    replace hb2 := below_then hb1 hb2
    clear hb1
    go_wp2_with fail
    go_at_call 18
    refine (cB w2 hb2).mono ?_
    rintro e w3 ⟨rfl, hb3⟩
    replace hb3 := below_then hb2 hb3
    clear hb2
    go_wp2_with fail
    go_at_call 16
    refine (cN w3).mono ?_
    rintro e wx ⟨rfl, rfl⟩
    go_wp2
    go_ret
    exact ⟨rfl, hb3⟩

theorem order_walk (a b : Nat) (w : World) (ha : a ≤ 18446744073709551615) (hb : b ≤ 18446744073709551615) (hT : Tabs w) (hP : Pow w) :
    Calls Tryd.prog 7 #[.int .u64 (a : Int), .int .u64 (b : Int)] w fun e w' => e = .returned (.bool true) ∧ Below w.heap.size w w' := by
  have hn := numS_dec a b
  have hless := dec_less a b
  have hl1 := decDigits_length a
  have hl2 := decDigits_length b
  refine order_core a b (numS (decDigits a) b).1 (decDigits a) (decDigits b) (numS (decDigits a) b).2 w ha hb hT ?_ (fun W hW => decimal_any a (by omega) W (pow_below hP hW)) (fun W hW => decimal_any b (by omega) W (pow_below hP hW))
    (fun W => numberP ⟨(decDigits a).toArray⟩ b _ W rfl (dec_size a ha) hb)
  have hm := nDigits_mono b a
  have hm' := nDigits_mono a b
  rw [hn]
  rcases Nat.lt_trichotomy a b with h | h | h
  · left
    have e1 : (decDigits a == decDigits b) = false := beq_eq_false_iff_ne.2 (fun e => by have := dec_inj e; omega)
    refine ⟨h, by rw [if_pos (by omega)], e1, ?_⟩
    rw [hl1, hl2]
    by_cases hlt : nDigits a < nDigits b
    · exact .inl hlt
    · right
      have heq : nDigits a = nDigits b := by have := hm (by omega); omega
      refine ⟨heq, ?_⟩
      rw [decide_eq_false hlt, decide_eq_true h, Bool.false_or, heq, beq_self_eq_true, Bool.true_and] at hless
      exact hless
  · right; left
    subst h
    exact ⟨rfl, by rw [if_pos (Nat.le_refl _)], rfl⟩
  · right; right
    have e1 : (decDigits a == decDigits b) = false := beq_eq_false_iff_ne.2 (fun e => by have := dec_inj e; omega)
    refine ⟨h, by rw [if_neg (by omega)], e1, ?_⟩
    rw [hl1, hl2]
    by_cases hlt : nDigits b < nDigits a
    · exact .inl hlt
    · right
      have heq : nDigits a = nDigits b := by have := hm' (by omega); omega
      refine ⟨heq, ?_⟩
      rw [heq, beq_self_eq_true, Bool.true_and, decide_eq_false (by omega), Bool.false_or, decide_eq_false (by omega)] at hless
      exact hless

theorem order_int (n m : Int) (w : World) (hn : 0 ≤ n ∧ n ≤ 18446744073709551615) (hm : 0 ≤ m ∧ m ≤ 18446744073709551615) (hT : Tabs w) (hP : Pow w) :
    Calls Tryd.prog 7 #[.int .u64 n, .int .u64 m] w fun e w' => e = .returned (.bool true) ∧ Below w.heap.size w w' := by
  obtain ⟨n', rfl⟩ := Int.eq_ofNat_of_zero_le hn.1
  obtain ⟨m', rfl⟩ := Int.eq_ofNat_of_zero_le hm.1
  exact order_walk n' m' w (by omega) (by omega) hT hP
end Go.Proofs.YtaalmjcanidnpaaDoor.Ch
