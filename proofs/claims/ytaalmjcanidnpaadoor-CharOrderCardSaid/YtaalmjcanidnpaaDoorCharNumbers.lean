/-
  THE WALKS OF THE STATEMENTS CharNumbers AND CharOrder.
-/
import Derived.Test.YtaalmjcanidnpaaDoorCharFirst
import Derived.Test.YtaalmjcanidnpaaDoorCharDec
import Derived.Test.YtaalmjcanidnpaaDoorCharRefNum
set_option linter.unusedVariables false
namespace Go.Proofs.YtaalmjcanidnpaaDoor.Ch
open Go.Lib Go.RowKit

theorem numberP (s : ByteArray) (m : Nat) (p : Nat × Bool) (w : World) (hp : numS s.data.toList m = p) (hs : s.size ≤ 9223372036854775807) (hm : m ≤ 18446744073709551615) :
    Calls Tryd.prog 16 #[.string s, .int .u64 (m : Int)] w fun e w' => e = .returned (.tuple #[.int .u64 (p.1 : Int), .bool p.2]) ∧ w = w' := by
  subst hp; exact number_any s m w hs hm
theorem refNumberP (s : ByteArray) (m : Nat) (p : Nat × Bool) (w : World) (hp : numS s.data.toList m = p) (hs : s.size ≤ 9223372036854775807) (hm : m ≤ 18446744073709551615) :
    Calls Tryd.prog 17 #[.string s, .int .u64 (m : Int)] w fun e w' => e = .returned (.tuple #[.int .u64 (p.1 : Int), .bool p.2]) ∧ w = w' := by
  subst hp; exact refNumber_any s m w hs hm
theorem dec_size (u : Nat) (hu : u ≤ 18446744073709551615) : (⟨(decDigits u).toArray⟩ : ByteArray).size ≤ 9223372036854775807 := by
  rw [Lib.size_eq]
  show (decDigits u).length ≤ _
  rw [decDigits_length]
  rcases Nat.eq_zero_or_pos u with h | h
  · rw [nDigits_small (by omega)]; omega
  · have := Lib.numDigits_eq u h (by omega); split at this <;> omega

set_option maxHeartbeats 4000000 in
set_option maxRecDepth 100000 in
theorem numbers_walk (s : ByteArray) (n m : Nat) (w : World) (hs : s.size ≤ 9223372036854775807) (hn : n ≤ 18446744073709551615) (hm : m ≤ 18446744073709551615) (hT : Tabs w) (hP : Pow w) :
    Calls Tryd.prog 5 #[.string s, .int .u64 (n : Int), .int .u64 (m : Int)] w fun e w' => e = .returned (.bool true) ∧ Below w.heap.size w w' := by
  have hT' := Lib.hid hT
  have hP' := Lib.hid hP
  clear hT hP
  obtain ⟨⟨V, O⟩, hp⟩ : ∃ p, numS s.data.toList m = p := ⟨_, rfl⟩
  have hp' := Lib.hid hp
  clear hp
  by_cases hnm : n ≤ m
  · have hd : numS (decDigits n) m = (n, true) := by rw [numS_dec, if_pos hnm]
    have hd' := Lib.hid hd
    clear hd
    go_enter Tryd.func5, Tryd.ntmps5
    go_wp2_with fail
    go_at_call 8
    refine (first_any w hT'.out).mono ?_
    rintro e w1 ⟨rfl, hb1⟩
    go_wp2_with fail
    go_at_call 16
    refine (numberP s m _ w1 hp'.out hs hm).mono ?_
    rintro e wx ⟨rfl, rfl⟩
    go_wp2_with fail
    go_at_call 17
    refine (refNumberP s m _ w1 hp'.out hs hm).mono ?_
    rintro e wx ⟨rfl, rfl⟩
    go_wp2_with fail
    go_at_call 18
    refine (decimal_any n (by omega) w1 (pow_below hP'.out hb1)).mono ?_
    rintro e w2 ⟨rfl, hb2⟩
    replace hb2 := below_then hb1 hb2
    clear hb1
    go_wp2_with fail
    go_at_call 16
    refine (numberP ⟨(decDigits n).toArray⟩ m (n, true) w2 hd'.out (dec_size n hn) hm).mono ?_
    rintro e wx ⟨rfl, rfl⟩
    go_wp2_with fail
    go_at_call 19
    refine (refDecimal_any n (by omega) w2).mono ?_
    rintro e w3 ⟨rfl, hb3⟩
    replace hb3 := below_then hb2 hb3
    clear hb2
    go_wp2
    go_ret
    exact ⟨rfl, hb3⟩
  · have hd : numS (decDigits n) m = (0, false) := by rw [numS_dec, if_neg hnm]
    have hd' := Lib.hid hd
    clear hd
    have hnm' : decide ((n : Int) ≤ (m : Int)) = false := decide_eq_false (by omega)
    go_enter Tryd.func5, Tryd.ntmps5
    go_wp2_with fail
    go_at_call 8
    refine (first_any w hT'.out).mono ?_
    rintro e w1 ⟨rfl, hb1⟩
    go_wp2_with fail
    go_at_call 16
    refine (numberP s m _ w1 hp'.out hs hm).mono ?_
    rintro e wx ⟨rfl, rfl⟩
    go_wp2_with fail
    go_at_call 17
    refine (refNumberP s m _ w1 hp'.out hs hm).mono ?_
    rintro e wx ⟨rfl, rfl⟩
    go_wp2_with fail
    go_at_call 18
    refine (decimal_any n (by omega) w1 (pow_below hP'.out hb1)).mono ?_
    rintro e w2 ⟨rfl, hb2⟩
    replace hb2 := below_then hb1 hb2
    clear hb1
    go_wp2_with fail
    go_at_call 16
    refine (numberP ⟨(decDigits n).toArray⟩ m (0, false) w2 hd'.out (dec_size n hn) hm).mono ?_
    rintro e wx ⟨rfl, rfl⟩
    go_wp2_with fail
    go_at_call 19
    refine (refDecimal_any n (by omega) w2).mono ?_
    rintro e w3 ⟨rfl, hb3⟩
    replace hb3 := below_then hb2 hb3
    clear hb2
    go_wp2
    go_ret
    exact ⟨rfl, hb3⟩

theorem numbers_int (s : ByteArray) (n m : Int) (w : World) (hs : s.data.toList.length ≤ 140737488351232) (hn : 0 ≤ n ∧ n ≤ 18446744073709551615) (hm : 0 ≤ m ∧ m ≤ 18446744073709551615) (hT : Tabs w) (hP : Pow w) :
    Calls Tryd.prog 5 #[.string s, .int .u64 n, .int .u64 m] w fun e w' => e = .returned (.bool true) ∧ Below w.heap.size w w' := by
  obtain ⟨n', rfl⟩ := Int.eq_ofNat_of_zero_le hn.1
  obtain ⟨m', rfl⟩ := Int.eq_ofNat_of_zero_le hm.1
  exact numbers_walk s n' m' w (by rw [Lib.size_eq]; omega) (by omega) (by omega) hT hP
end Go.Proofs.YtaalmjcanidnpaaDoor.Ch
