/-
  PLAIN: a bit of a row of bytes is turned; the bits of a number are turned one behind the other.
-/
import Derived.Test.YtpngbfmbjldieaaCrcPlain
set_option linter.unusedVariables false
namespace Go.Proofs.Ytpngbfmbjldieaa.Cr
open Bo (Row)

theorem xor_pow (a b n : Nat) : (a ^^^ b) * 2 ^ n = a * 2 ^ n ^^^ b * 2 ^ n := by
  rw [← Nat.shiftLeft_eq, ← Nat.shiftLeft_eq, ← Nat.shiftLeft_eq, Nat.shiftLeft_xor_distrib]
theorem val_set : ∀ (l : Row) (q : Nat) (y d : UInt8), l[q]? = some y → val (l.set q (y ^^^ d)) = val l ^^^ d.toNat * 2 ^ (8 * q)
  | [], q, y, d, h => by simp at h
  | x :: l, 0, y, d, h => by
    simp at h
    subst h
    show (x ^^^ d).toNat ^^^ (val l * 2 ^ 8) = x.toNat ^^^ (val l * 2 ^ 8) ^^^ d.toNat * 2 ^ 0
    rw [UInt8.toNat_xor, Nat.pow_zero, Nat.mul_one]
    ac_rfl
  | x :: l, q + 1, y, d, h => by
    show x.toNat ^^^ (val (l.set q (y ^^^ d)) * 2 ^ 8) = x.toNat ^^^ (val l * 2 ^ 8) ^^^ d.toNat * 2 ^ (8 * (q + 1))
    rw [val_set l q y d (by simpa using h), xor_pow, Nat.mul_assoc, ← Nat.pow_add, show 8 * q + 8 = 8 * (q + 1) by omega]
    ac_rfl
/-- the bits of t up to i, turned from the place k on -/
def Turned (x y : Row) (t k i : Nat) : Prop := y.length = x.length ∧ val x ^^^ val y = t % 2 ^ i * 2 ^ k
theorem Turned.start (x : Row) (t k : Nat) : Turned x x t k 0 := ⟨rfl, by rw [Nat.xor_self, Nat.pow_zero, Nat.mod_one, Nat.zero_mul]⟩
theorem mod_bit (t i : Nat) : t % 2 ^ (i + 1) = t % 2 ^ i ^^^ (t / 2 ^ i % 2) * 2 ^ i := by
  apply Nat.eq_of_testBit_eq
  intro j
  rw [Nat.testBit_xor, Nat.testBit_mod_two_pow, Nat.testBit_mod_two_pow, ← Nat.shiftLeft_eq, Nat.testBit_shiftLeft]
  rw [show t / 2 ^ i % 2 = (t / 2 ^ i) % 2 ^ 1 from rfl, Nat.testBit_mod_two_pow, Nat.testBit_div_two_pow]
  rcases Nat.lt_trichotomy j i with h | h | h
  · simp [h, show j < i + 1 by omega, show ¬ i ≤ j by omega]
  · subst h; simp
  · simp [show ¬ j < i by omega, show ¬ j < i + 1 by omega, show ¬ j - i < 1 by omega]
theorem Turned.none {x y : Row} {t k i : Nat} (h : Turned x y t k i) (hb : t / 2 ^ i % 2 = 0) : Turned x y t k (i + 1) := ⟨h.1, by rw [mod_bit, hb, Nat.zero_mul, Nat.xor_zero]; exact h.2⟩
theorem Turned.one {x y : Row} {t k i q : Nat} {b d : UInt8} (h : Turned x y t k i) (hb : t / 2 ^ i % 2 = 1) (hq : y[q]? = some b) (hd : d.toNat * 2 ^ (8 * q) = 2 ^ (k + i)) : Turned x (y.set q (b ^^^ d)) t k (i + 1) := by
  refine ⟨by rw [List.length_set]; exact h.1, ?_⟩
  rw [val_set y q b d hq, mod_bit, hb, Nat.one_mul, xor_pow, ← h.2, hd, ← Nat.pow_add, Nat.add_comm i k]
  ac_rfl
theorem Turned.unlike {x y : Row} {t k : Nat} (h : Turned x y t k 32) (ht : t < 4294967296) (hn : t ≠ 0) (hk : k ≤ 8 * x.length) : sum x ≠ sum y :=
  sum_burst h.1.symm k t ht hn (by rw [h.2, Nat.mod_eq_of_lt ht]) hk
/-- which bit of which byte -/
theorem bit_at (m : Nat) : (UInt8.ofNat (2 ^ (m % 8))).toNat * 2 ^ (8 * (m / 8)) = 2 ^ m := by
  have h : 2 ^ (m % 8) < 256 := Nat.lt_of_lt_of_le (Nat.pow_lt_pow_right (by decide) (Nat.mod_lt _ (by decide))) (Nat.le_refl (2 ^ 8))
  rw [UInt8.toNat_ofNat', Nat.mod_eq_of_lt h, ← Nat.pow_add]
  congr 1
  omega
end Go.Proofs.Ytpngbfmbjldieaa.Cr
