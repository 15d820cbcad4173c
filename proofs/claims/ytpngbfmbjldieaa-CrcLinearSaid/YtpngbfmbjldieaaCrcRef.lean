/-
  THE WALK OF calepinref16.Sum.
-/
import Derived.Test.YtpngbfmbjldieaaCrcCodeA
import Derived.Test.YtpngbfmbjldieaaRdrB
import Derived.Deep.Cut
set_option linter.unusedVariables false
namespace Go.Proofs.Ytpngbfmbjldieaa.Cr
open Go.Lib Go.RowKit
open Bo (Row)
open Ly (BtsAt)

/-- the bits from i on are still to go in -/
def Bits (r0 : Nat) (x : UInt8) (i r : Nat) : Prop := stps (8 - i) (r ^^^ (x.toNat / 2 ^ i)) = byt r0 x
theorem Bits.start (r : Nat) (x : UInt8) : Bits r x 0 r := by unfold Bits byt; rw [Nat.pow_zero, Nat.div_one]
theorem Bits.step {r0 i r : Nat} {x : UInt8} (h : Bits r0 x i r) (hi : i < 8) : Bits r0 x (i + 1) (bitS r (x.toNat / 2 ^ i)) := by
  unfold Bits at h ⊢
  rw [show 8 - i = (8 - (i + 1)) + 1 by omega, bit_on] at h
  rw [← h, Nat.pow_succ, Nat.div_div_eq_div_mul]
theorem Bits.fin {r0 r : Nat} {x : UInt8} (h : Bits r0 x 8 r) : r = byt r0 x := by
  unfold Bits at h
  rw [show x.toNat / 2 ^ 8 = 0 by have := x.toNat_lt; omega, Nat.xor_zero] at h
  exact h
theorem bitS_lt {r b : Nat} (h : r < 4294967296) : bitS r b < 4294967296 := by
  unfold bitS
  split
  · exact xor_lt (by omega) (by decide)
  · omega
set_option maxHeartbeats 8000000 in
set_option maxRecDepth 100000 in
theorem refSum_any (w : World) (v : Value) (l : Row) (hb : BtsAt w v l) :
    Calls Try.prog 23 #[v] w fun e w' => e = .returned (.int .u32 ((sum l : Nat) : Int)) ∧ w' = w := by
  obtain ⟨A, db, off, c, rfl, k1, k2, k3, k4⟩ := Ly.bts_one hb
  have hlen : l.length ≤ 9223372036854775807 := by unfold maxLen at k2; omega
  have k3' := Lib.hid k3
  have k4' := Lib.hid k4
  clear k3 k4 hb
  go_enter Try.func23, Try.ntmps23
  go_wp2
  go_loopw [3, 10] (fun s3 s10 wr => wr = w ∧ ∃ k : Nat, s10 = .int .i64 (k : Int) ∧ k ≤ l.length ∧ s3 = .int .u32 (reg full (l.take k) : Int)) (fun _ s10 wr => l.length - (RowKit.intOf s10).toNat)
  case atStart => exact ⟨rfl, 0, rfl, by omega, rfl⟩
  case round =>
    obtain ⟨rfl, k, rfl, hk, rfl⟩ := hrel
    by_cases hlt : k < l.length
    · obtain ⟨b, hbk⟩ : ∃ b, l[k]? = some b := ⟨_, List.getElem?_eq_getElem (by omega)⟩
      have hcb := k4'.out k b hbk
      obtain ⟨rfl, hdb⟩ := k3'.out (by omega)
      have hrl := reg_lt (l.take k) (r := full) (by decide)
      have hsn : reg full (l.take (k + 1)) = byt (reg full (l.take k)) b := by
        have e := (List.getElem?_eq_some_iff.1 hbk)
        rw [List.take_succ_eq_append_getElem e.1, e.2, reg_app]
        rfl
      obtain ⟨r, hr⟩ : ∃ r, reg full (l.take k) = r := ⟨_, rfl⟩
      rw [hr] at hrl hsn ⊢
      have hsn' := Lib.hid hsn
      have hbl := b.toNat_lt
      clear hsn hr hbk
      go_wp2
      go_loopw [3, 6] (fun s3 s6 wq => wq = wr ∧ ∃ i q : Nat, s6 = .int .i64 (i : Int) ∧ i ≤ 8 ∧ s3 = .int .u32 (q : Int) ∧ q < 4294967296 ∧ Hid (Bits r b i q)) (fun s3 s6 wq => 8 - (RowKit.intOf s6).toNat)
      case atStart => exact ⟨rfl, 0, r, rfl, by omega, rfl, hrl, Lib.hid (Bits.start r b)⟩
      case round =>
        obtain ⟨rfl, i, q, rfl, hi, rfl, hq, hB⟩ := hrel
        by_cases hli : i < 8
        · obtain ⟨z, hz⟩ : ∃ z, b.toNat / 2 ^ i = z := ⟨_, rfl⟩
          have hzl : z < 256 := by rw [← hz]; exact Nat.lt_of_le_of_lt (Nat.div_le_self _ _) hbl
          obtain ⟨y, hy⟩ : ∃ y, q ^^^ z = y := ⟨_, rfl⟩
          have hyl : y < 4294967296 := by rw [← hy]; exact xor_lt hq (by omega)
          have e1 : bits .xor .u32 (q : Int) ((b.toNat : Int) / 2 ^ i % 4294967296) = (y : Int) := by
            have hc : (b.toNat : Int) / 2 ^ i % 4294967296 = (z : Int) := by
              have : (b.toNat : Int) / 2 ^ i = (z : Int) := by rw [← hz]; simp
              rw [this]; omega
            rw [hc, u32_xor_nat q z hq (by omega), hy]
          have e2 : bits .and .u32 (y : Int) 1 = ((y % 2 : Nat) : Int) := by
            have := u32_and_nat y 1 hyl (by decide)
            rw [Nat.and_one_is_mod] at this
            exact this
          have hst := hB.out.step hli
          have hql := bitS_lt (b := b.toNat / 2 ^ i) hq
          rw [hz] at hst hql
          by_cases hm : y % 2 = 1
          · have e3 : bits .xor .u32 ((q : Int) / 2) 3988292384 = ((bitS q z : Nat) : Int) := by
              unfold bitS
              rw [hy, if_pos hm]
              exact u32_xor_nat (q / 2) poly (by omega) (by decide)
            rw [hm] at e2
            obtain ⟨q2, hq2⟩ : ∃ q2, bitS q z = q2 := ⟨_, rfl⟩
            rw [hq2] at hst hql e3
            have hst' := Lib.hid hst
            clear hst hq2 hm hy hz
            go_wp2
            exact ⟨⟨trivial, i + 1, q2, by go_num, by omega, rfl, hql, hst'⟩, by simp [RowKit.intOf]; omega⟩
          · have e3 : ((bitS q z : Nat) : Int) = (q : Int) / 2 := by
              unfold bitS
              rw [hy, if_neg hm]
              omega
            have hm0 : y % 2 = 0 := by omega
            rw [hm0] at e2
            obtain ⟨q2, hq2⟩ : ∃ q2, bitS q z = q2 := ⟨_, rfl⟩
            rw [hq2] at hst hql e3
            have hst' := Lib.hid hst
            have e3' := Lib.hid e3
            clear hst hq2 hm hm0 hy hz e3
            go_wp2
            exact ⟨⟨trivial, i + 1, q2, by go_num, by omega, by rw [e3'.out], hql, hst'⟩, by simp [RowKit.intOf]; omega⟩
        · obtain rfl : i = 8 := by omega
          have hfin := Lib.hid (hB.out.fin)
          go_wp2
          go_roundw
          case rel => exact ⟨trivial, k + 1, by go_num, by omega, by rw [hsn'.out, hfin.out]⟩
          case measure => simp [RowKit.intOf]; omega
    · obtain rfl : k = l.length := by omega
      have hz : bits .xor .u32 (reg full l : Int) 4294967295 = ((sum l : Nat) : Int) := by
        have := u32_xor_nat (reg full l) full (reg_lt l (by decide)) (by decide)
        exact this
      rw [List.take_of_length_le (Nat.le_refl _)]
      go_wp2
      go_ret
      exact ⟨rfl, rfl⟩
end Go.Proofs.Ytpngbfmbjldieaa.Cr
