/-
  PLAIN WORDS OF LAYER crc: a register of 32 bits, a bit's step ('stp'), a byte's ('byt'), the register of bytes ('reg'), their sum ('sum'); sums are added as bytes are, bursts are told, a sum behind its bytes. Nothing of the program is run here.
-/
import Derived.Test.YtpngbfmbjldieaaRowB
set_option linter.unusedVariables false
namespace Go.Proofs.Ytpngbfmbjldieaa.Cr
open Bo (Row)

def poly : Nat := 3988292384
def full : Nat := 4294967295
/-- a bit is shifted out -/
def stp (r : Nat) : Nat := if r % 2 = 1 then (r / 2) ^^^ poly else r / 2
def stps : Nat → Nat → Nat
  | 0, r => r
  | n + 1, r => stps n (stp r)
def byt (r : Nat) (x : UInt8) : Nat := stps 8 (r ^^^ x.toNat)
def reg (r : Nat) (l : Row) : Nat := l.foldl byt r
def sum (l : Row) : Nat := reg full l ^^^ full

theorem xor_div (a b : Nat) : (a ^^^ b) / 2 = a / 2 ^^^ b / 2 := by
  apply Nat.eq_of_testBit_eq
  intro i
  rw [Nat.testBit_xor, Nat.testBit_div_two, Nat.testBit_div_two, Nat.testBit_div_two, Nat.testBit_xor]
theorem xor_mod (a b : Nat) : (a ^^^ b) % 2 = (a % 2 + b % 2) % 2 := by
  have h := Nat.testBit_xor a b 0
  simp only [Nat.testBit_zero] at h
  have h1 := Nat.mod_two_eq_zero_or_one a
  have h2 := Nat.mod_two_eq_zero_or_one b
  have h3 := Nat.mod_two_eq_zero_or_one (a ^^^ b)
  rcases h1 with h1 | h1 <;> rcases h2 with h2 | h2 <;> rcases h3 with h3 | h3 <;> simp_all
theorem stp_xor (a b : Nat) : stp (a ^^^ b) = stp a ^^^ stp b := by
  unfold stp
  rw [xor_mod, xor_div]
  have h1 := Nat.mod_two_eq_zero_or_one a
  have h2 := Nat.mod_two_eq_zero_or_one b
  rcases h1 with h1 | h1 <;> rcases h2 with h2 | h2 <;> rw [h1, h2] <;> simp
  · ac_rfl
  · ac_rfl
  · rw [Nat.xor_assoc, Nat.xor_comm poly (b / 2 ^^^ poly), Nat.xor_assoc, Nat.xor_self, Nat.xor_zero]
theorem stp_zero : stp 0 = 0 := rfl
theorem stps_zero : ∀ n, stps n 0 = 0
  | 0 => rfl
  | n + 1 => by unfold stps; rw [stp_zero]; exact stps_zero n
theorem stps_xor : ∀ (n a b : Nat), stps n (a ^^^ b) = stps n a ^^^ stps n b
  | 0, _, _ => rfl
  | n + 1, a, b => by unfold stps; rw [stp_xor, stps_xor n]
theorem stps_add : ∀ (m n r : Nat), stps (m + n) r = stps n (stps m r)
  | 0, n, r => by rw [Nat.zero_add]; rfl
  | m + 1, n, r => by
    rw [show m + 1 + n = (m + n) + 1 by omega]
    exact stps_add m n (stp r)
theorem xor_lt {a b : Nat} (h1 : a < 4294967296) (h2 : b < 4294967296) : a ^^^ b < 4294967296 := Nat.xor_lt_two_pow (n := 32) h1 h2
theorem stp_lt {r : Nat} (h : r < 4294967296) : stp r < 4294967296 := by
  unfold stp
  split
  · exact xor_lt (by omega) (by decide)
  · omega
theorem stps_lt : ∀ (n : Nat) {r : Nat}, r < 4294967296 → stps n r < 4294967296
  | 0, _, h => h
  | n + 1, r, h => by unfold stps; exact stps_lt n (stp_lt h)
theorem byt_lt {r : Nat} (x : UInt8) (h : r < 4294967296) : byt r x < 4294967296 := stps_lt 8 (xor_lt h (by have := x.toNat_lt; omega))
theorem reg_lt : ∀ (l : Row) {r : Nat}, r < 4294967296 → reg r l < 4294967296
  | [], _, h => h
  | x :: l, r, h => by unfold reg; rw [List.foldl_cons]; exact reg_lt l (byt_lt x h)
theorem sum_lt (l : Row) : sum l < 4294967296 := xor_lt (reg_lt l (by decide)) (by decide)
theorem reg_app (r : Nat) (a b : Row) : reg r (a ++ b) = reg (reg r a) b := by unfold reg; rw [List.foldl_append]
theorem xor_full (r : Nat) : r ^^^ full ^^^ full = r := by rw [Nat.xor_assoc, Nat.xor_self, Nat.xor_zero]
theorem sum_app (a b : Row) : sum (a ++ b) = reg (sum a ^^^ full) b ^^^ full := by unfold sum; rw [reg_app, xor_full]

/-! ### bit by bit, and by a table -/
/-- the bit of x goes in where the register's lowest goes out -/
def bitS (r b : Nat) : Nat := if (r ^^^ b) % 2 = 1 then (r / 2) ^^^ poly else r / 2
theorem bit_one (r x : Nat) : stp (r ^^^ x) = bitS r x ^^^ (x / 2) := by
  unfold stp bitS
  rw [xor_div]
  split
  · rw [Nat.xor_assoc, Nat.xor_comm (x / 2), ← Nat.xor_assoc]
  · rfl
theorem bit_on (n r x : Nat) : stps (n + 1) (r ^^^ x) = stps n (bitS r x ^^^ (x / 2)) := by
  show stps n (stp (r ^^^ x)) = _
  rw [bit_one]
/-- what stands high is shifted down unchanged -/
theorem stps_high : ∀ (n r h : Nat), stps n (r ^^^ (h * 2 ^ n)) = stps n r ^^^ h
  | 0, r, h => by rw [Nat.pow_zero, Nat.mul_one]; rfl
  | n + 1, r, h => by
    rw [show h * 2 ^ (n + 1) = 2 * (h * 2 ^ n) by rw [Nat.pow_succ]; ac_rfl]
    show stps n (stp (r ^^^ 2 * (h * 2 ^ n))) = stps n (stp r) ^^^ h
    have e : stp (r ^^^ 2 * (h * 2 ^ n)) = stp r ^^^ (h * 2 ^ n) := by
      rw [stp_xor]
      congr 1
      unfold stp
      rw [if_neg (by omega)]
      omega
    rw [e, stps_high n]
theorem low_high (r : Nat) : r = (r % 256) ^^^ (r / 256 * 2 ^ 8) := by
  have h : r % 256 ^^^ (r / 256 * 2 ^ 8) = r / 256 * 2 ^ 8 + r % 256 := by
    rw [Nat.xor_comm, Nat.mul_comm]
    have := Nat.two_pow_add_eq_or_of_lt (i := 8) (b := r % 256) (Nat.mod_lt _ (by decide)) (r / 256)
    rw [this]
    apply Nat.eq_of_testBit_eq
    intro i
    rw [Nat.testBit_xor, Nat.testBit_or, Nat.testBit_two_pow_mul]
    by_cases hi : i < 8
    · simp [show ¬ 8 ≤ i by omega]
    · have : (r % 256).testBit i = false := Nat.testBit_lt_two_pow (Nat.lt_of_lt_of_le (Nat.mod_lt _ (by decide)) (Nat.pow_le_pow_right (n := 2) (i := 8) (by decide) (by omega)))
      simp [this]
  omega
/-- a byte by a table -/
theorem byt_table (r : Nat) (x : UInt8) : byt r x = stps 8 ((r ^^^ x.toNat) % 256) ^^^ (r / 256) := by
  unfold byt
  have e : (r ^^^ x.toNat) / 256 = r / 256 := by
    apply Nat.eq_of_testBit_eq
    intro i
    rw [show (256 : Nat) = 2 ^ 8 from rfl, Nat.testBit_div_two_pow, Nat.testBit_div_two_pow, Nat.testBit_xor]
    have : x.toNat.testBit (i + 8) = false := Nat.testBit_lt_two_pow (Nat.lt_of_lt_of_le x.toNat_lt (Nat.pow_le_pow_right (n := 2) (i := 8) (by decide) (by omega)))
    rw [this]
    simp
  conv => lhs; rw [low_high (r ^^^ x.toNat)]
  rw [stps_high, e]

/-! ### sums are added as bytes are -/
def addB : Row → Row → Row := List.zipWith (· ^^^ ·)
theorem byt_xor (r s : Nat) (x y : UInt8) : byt (r ^^^ s) (x ^^^ y) = byt r x ^^^ byt s y := by
  unfold byt
  rw [UInt8.toNat_xor, ← stps_xor]
  congr 1
  rw [Nat.xor_assoc, Nat.xor_assoc]
  congr 1
  rw [← Nat.xor_assoc, ← Nat.xor_assoc, Nat.xor_comm s]
theorem reg_xor : ∀ (a b : Row) (r s : Nat), a.length = b.length → reg (r ^^^ s) (addB a b) = reg r a ^^^ reg s b
  | [], [], r, s, _ => rfl
  | x :: a, y :: b, r, s, h => by
    show reg (byt (r ^^^ s) (x ^^^ y)) (addB a b) = reg (byt r x) a ^^^ reg (byt s y) b
    rw [byt_xor]
    exact reg_xor a b _ _ (by simpa using h)
theorem add_len {a b : Row} (h : a.length = b.length) : (addB a b).length = a.length := by unfold addB; rw [List.length_zipWith]; omega
theorem sum_linear {a b c : Row} (h1 : a.length = b.length) (h2 : b.length = c.length) : sum (addB (addB a b) c) = sum a ^^^ sum b ^^^ sum c := by
  unfold sum
  have e1 : full = (full ^^^ full) ^^^ full := by rw [Nat.xor_self, Nat.zero_xor]
  have : reg full (addB (addB a b) c) = reg full a ^^^ reg full b ^^^ reg full c := by
    conv => lhs; rw [e1]
    rw [reg_xor _ _ _ _ (by rw [add_len h1]; omega), reg_xor _ _ _ _ h1]
  rw [this]
  generalize reg full a = x
  generalize reg full b = y
  generalize reg full c = z
  have e2 : x ^^^ full ^^^ (y ^^^ full) = x ^^^ y := by
    rw [Nat.xor_assoc, Nat.xor_comm y, ← Nat.xor_assoc full, Nat.xor_self, Nat.zero_xor]
  rw [e2, ← Nat.xor_assoc]

/-! ### bursts are told -/
theorem stp_ne {r : Nat} (h : r < 4294967296) (hn : r ≠ 0) : stp r ≠ 0 := by
  unfold stp
  split
  · intro e
    have h1 : (r / 2 ^^^ poly).testBit 31 = false := by rw [e]; exact Nat.zero_testBit 31
    rw [Nat.testBit_xor, Nat.testBit_lt_two_pow (x := r / 2) (i := 31) (by omega)] at h1
    revert h1
    decide
  · omega
theorem stps_ne : ∀ (n : Nat) {r : Nat}, r < 4294967296 → r ≠ 0 → stps n r ≠ 0
  | 0, _, _, h => h
  | n + 1, r, h1, h2 => by unfold stps; exact stps_ne n (stp_lt h1) (stp_ne h1 h2)
/-- the bytes as one number, the first byte lowest -/
def val : Row → Nat
  | [] => 0
  | x :: l => x.toNat ^^^ (val l * 2 ^ 8)
theorem reg_val : ∀ (l : Row) (r : Nat), reg r l = stps (8 * l.length) (r ^^^ val l)
  | [], r => by show r = r ^^^ 0; rw [Nat.xor_zero]
  | x :: l, r => by
    show reg (byt r x) l = _
    rw [reg_val l, List.length_cons, show 8 * (l.length + 1) = 8 + 8 * l.length by omega, stps_add]
    congr 1
    show stps 8 (r ^^^ x.toNat) ^^^ val l = stps 8 (r ^^^ (x.toNat ^^^ (val l * 2 ^ 8)))
    rw [← Nat.xor_assoc, stps_high]
/-- a difference of bytes that is the register's number shifted is told -/
theorem reg_burst {a b : Row} (h : a.length = b.length) (k t : Nat) (ht : t < 4294967296) (hn : t ≠ 0) (hv : val a ^^^ val b = t * 2 ^ k) (hk : k ≤ 8 * a.length) (r : Nat) : reg r a ≠ reg r b := by
  intro e
  rw [reg_val, reg_val, ← h] at e
  have e2 : stps (8 * a.length) (t * 2 ^ k) = 0 := by
    rw [← hv]
    have : val a ^^^ val b = (r ^^^ val a) ^^^ (r ^^^ val b) := by
      rw [Nat.xor_assoc, Nat.xor_comm (val a) (r ^^^ val b), Nat.xor_assoc, ← Nat.xor_assoc r r, Nat.xor_self, Nat.zero_xor, Nat.xor_comm]
    rw [this, stps_xor, e, Nat.xor_self]
  have h3 := stps_high k 0 t
  rw [Nat.zero_xor, stps_zero, Nat.zero_xor] at h3
  rw [show 8 * a.length = k + (8 * a.length - k) by omega, stps_add, h3] at e2
  exact stps_ne _ ht hn e2
theorem sum_burst {a b : Row} (h : a.length = b.length) (k t : Nat) (ht : t < 4294967296) (hn : t ≠ 0) (hv : val a ^^^ val b = t * 2 ^ k) (hk : k ≤ 8 * a.length) : sum a ≠ sum b := by
  intro e
  unfold sum at e
  have e2 : reg full a ^^^ full ^^^ full = reg full b ^^^ full ^^^ full := by rw [e]
  rw [xor_full, xor_full] at e2
  exact reg_burst h k t ht hn hv hk full e2

/-! ### a sum behind its bytes -/
def le4 (s : Nat) : Row := [UInt8.ofNat s, UInt8.ofNat (s / 256), UInt8.ofNat (s / 65536), UInt8.ofNat (s / 16777216)]
theorem val_le4 {s : Nat} (h : s < 4294967296) : val (le4 s) = s := by
  have one : ∀ n, (UInt8.ofNat n).toNat ^^^ (n / 256 * 2 ^ 8) = n := fun n => by
    rw [UInt8.toNat_ofNat']
    exact (low_high n).symm
  unfold le4 val val val val val
  rw [show s / 16777216 = s / 65536 / 256 by omega, show s / 65536 = s / 256 / 256 by omega]
  have h0 : (UInt8.ofNat (s / 256 / 256 / 256)).toNat ^^^ (0 * 2 ^ 8) = s / 256 / 256 / 256 := by
    have := one (s / 256 / 256 / 256)
    rw [show s / 256 / 256 / 256 / 256 = 0 by omega] at this
    exact this
  rw [h0, one, one, one]
theorem sum_ends (l : Row) : sum (l ++ le4 (sum l)) = 558161692 := by
  have h : stps 32 full ^^^ full = 558161692 := by decide +kernel
  rw [sum_app, reg_val, val_le4 (sum_lt l)]
  have : sum l ^^^ full ^^^ sum l = full := by rw [Nat.xor_comm (sum l), Nat.xor_assoc, Nat.xor_self, Nat.xor_zero]
  rw [this]
  exact h
theorem zeros_told : ((List.range 20).all fun n => decide (sum (List.replicate (n + 1) 0) ≠ 0)) = true := by decide +kernel
theorem sum_zeros {n : Nat} (h1 : 1 ≤ n) (h2 : n ≤ 20) : sum (List.replicate n 0) ≠ 0 := by
  have := List.all_eq_true.1 zeros_told (n - 1) (List.mem_range.2 (by omega))
  rw [show n - 1 + 1 = n by omega] at this
  exact of_decide_eq_true this
theorem sum_digits : sum [49, 50, 51, 52, 53, 54, 55, 56, 57] = 3421780262 := by decide +kernel
theorem sum_nil : sum [] = 0 := by decide +kernel
end Go.Proofs.Ytpngbfmbjldieaa.Cr
