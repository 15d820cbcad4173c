/-
  PLAIN: numbers, texts, flags as bytes, and what eight bytes are as a number.
-/
import Derived.Test.YtpngbfmbjldieaaRowB
set_option linter.unusedVariables false
namespace Go.Proofs.Ytpngbfmbjldieaa.Ly
open Bo (Row)

/-- a number's eight bytes -/
def word (n : Nat) : Row := (List.range 8).map fun k => UInt8.ofNat (n / 2 ^ (56 - 8 * k))
theorem word_len (n : Nat) : (word n).length = 8 := by simp [word]
theorem word_take (n k : Nat) (hk : k < 8) : (word n).take (k + 1) = (word n).take k ++ [UInt8.ofNat (n / 2 ^ (56 - 8 * k))] := by
  rw [List.take_succ_eq_append_getElem (by rw [word_len]; exact hk)]
  simp [word]
def text (t : Row) : Row := word t.length ++ t
def flag (b : Bool) : Row := [if b = true then 1 else 0]

/-- the number that bytes make, the greatest first -/
def num (l : Row) : Nat := l.foldl (fun n (b : UInt8) => n * 256 + b.toNat) 0
theorem num_snoc (l : Row) (b : UInt8) : num (l ++ [b]) = num l * 256 + b.toNat := by unfold num; rw [List.foldl_append]; rfl
theorem num_lt : ∀ (k : Nat) (l : Row), l.length = k → num l < 256 ^ k
  | 0, l, h => by rw [List.eq_nil_of_length_eq_zero h]; decide
  | k + 1, l, h => by
    have hl : l = l.take k ++ [l[k]'(by omega)] := by
      rw [← List.take_succ_eq_append_getElem (by omega), List.take_of_length_le (by omega)]
    rw [hl, num_snoc]
    have := num_lt k (l.take k) (by rw [List.length_take]; omega)
    have := (l[k]'(by omega)).toNat_lt
    rw [Nat.pow_succ]
    omega
theorem num_word (n : Nat) (h : n < 18446744073709551616) : num (word n) = n := by
  have e : word n = [UInt8.ofNat (n / 2 ^ 56), UInt8.ofNat (n / 2 ^ 48), UInt8.ofNat (n / 2 ^ 40), UInt8.ofNat (n / 2 ^ 32), UInt8.ofNat (n / 2 ^ 24), UInt8.ofNat (n / 2 ^ 16), UInt8.ofNat (n / 2 ^ 8), UInt8.ofNat (n / 2 ^ 0)] := rfl
  rw [e]
  unfold num
  simp only [List.foldl_cons, List.foldl_nil, UInt8.toNat_ofNat']
  omega
end Go.Proofs.Ytpngbfmbjldieaa.Ly
