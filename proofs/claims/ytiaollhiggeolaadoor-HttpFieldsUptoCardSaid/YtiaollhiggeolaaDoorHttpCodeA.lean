/-
  WALKS OF THE PROGRAM's LAYER http: isGreat, isSeen, isPrinted, inValue, inName, made, isMethod, isTarget, isLength, isCoding, isField.
-/
import Derived.Test.YtiaollhiggeolaaDoorHttpRef
import Derived.Test.YtiaollhiggeolaaDoorHttpTrim
import Derived.Test.YtiaollhiggeolaaDoorCharLetters
import Derived.Shelf.Strings.SlTrimAscii
import Derived.Shelf.GgClosure.Gives
set_option linter.unusedVariables false
namespace Go.Proofs.YtiaollhiggeolaaDoor.Ht
open Go.Lib Go.RowKit

theorem rg_of (lo hi : Nat) (tab : Bool) (b : UInt8) (v : Nat) (h : b.toNat = v) : Hid (∀ r : Bool, (r = true ↔ ((lo ≤ v ∧ v ≤ hi) ∨ (tab = true ∧ v = 9))) → r = rgB lo hi tab b) := Lib.hid fun r hr => by
  unfold rgB
  rw [Bool.eq_iff_iff, hr, h]
  simp only [Bool.or_eq_true, Bool.and_eq_true, decide_eq_true_iff, beq_iff_eq]
  rw [show (b = 9 ↔ v = 9) from byte_is b v h 9 (by decide)]
set_option maxHeartbeats 2000000 in
set_option maxRecDepth 100000 in
theorem isGreat_any (b : UInt8) (w : World) : Calls Tryd.prog 35 #[.int .u8 (b.toNat : Int)] w fun e w' => e = .returned (.bool (rgB 65 90 false b)) ∧ w' = w := by
  have H := rg_of 65 90 false b b.toNat rfl
  generalize rgB 65 90 false b = R at H ⊢
  generalize b.toNat = v at H ⊢
  go_enter Tryd.func35, Tryd.ntmps35
  go_wp2
  all_goals
    go_ret
    exact ⟨ret_bool (H.out _ (by first | omega | (simp; omega))), rfl⟩
set_option maxHeartbeats 2000000 in
set_option maxRecDepth 100000 in
theorem isSeen_any (b : UInt8) (w : World) : Calls Tryd.prog 36 #[.int .u8 (b.toNat : Int)] w fun e w' => e = .returned (.bool (rgB 33 126 false b)) ∧ w' = w := by
  have H := rg_of 33 126 false b b.toNat rfl
  generalize rgB 33 126 false b = R at H ⊢
  generalize b.toNat = v at H ⊢
  go_enter Tryd.func36, Tryd.ntmps36
  go_wp2
  all_goals
    go_ret
    exact ⟨ret_bool (H.out _ (by first | omega | (simp; omega))), rfl⟩
theorem printed_is (b : UInt8) : rgB 32 126 false b = (decide (b.toNat = 32) || rgB 33 126 false b) := by
  unfold rgB
  rw [Bool.eq_iff_iff]
  simp only [Bool.or_eq_true, Bool.and_eq_true, decide_eq_true_iff, Bool.false_eq_true, false_and, or_false]
  omega
theorem value_is (b : UInt8) : rgB 32 126 true b = (decide (b.toNat = 9) || rgB 32 126 false b) := by
  have h := byte_is b b.toNat rfl 9 (by decide)
  unfold rgB
  rw [Bool.eq_iff_iff]
  simp only [Bool.or_eq_true, Bool.and_eq_true, decide_eq_true_iff, beq_iff_eq, true_and, Bool.false_eq_true, false_and, or_false]
  rw [show (b = 9 ↔ b.toNat = 9) from h]
  omega
set_option maxHeartbeats 2000000 in
set_option maxRecDepth 100000 in
theorem isPrinted_any (b : UInt8) (w : World) : Calls Tryd.prog 49 #[.int .u8 (b.toNat : Int)] w fun e w' => e = .returned (.bool (rgB 32 126 false b)) ∧ w' = w := by
  have c := isSeen_any b w
  rw [printed_is]
  generalize rgB 33 126 false b = R at c ⊢
  obtain ⟨v, hv⟩ : ∃ v, b.toNat = v := ⟨_, rfl⟩
  rw [hv] at c ⊢
  by_cases h : v = 32
  · subst h
    go_enter Tryd.func49, Tryd.ntmps49
    go_wp2
    go_ret
    exact ⟨rfl, rfl⟩
  · have h1 : ((v : Int) == 32) = false := beq_false_of_ne (by omega)
    rw [decide_eq_false h, Bool.false_or]
    go_enter Tryd.func49, Tryd.ntmps49
    go_wp2_with fail
    go_at_call 36
    with_reducible refine c.mono ?_
    rintro e w3 ⟨rfl, rfl⟩
    go_wp2
    go_ret
    exact ⟨rfl, rfl⟩
set_option maxHeartbeats 2000000 in
set_option maxRecDepth 100000 in
theorem inValue_any (b : UInt8) (w : World) : Calls Tryd.prog 62 #[.int .u8 (b.toNat : Int)] w fun e w' => e = .returned (.bool (rgB 32 126 true b)) ∧ w' = w := by
  have c := isPrinted_any b w
  rw [value_is]
  generalize rgB 32 126 false b = R at c ⊢
  obtain ⟨v, hv⟩ : ∃ v, b.toNat = v := ⟨_, rfl⟩
  rw [hv] at c ⊢
  by_cases h : v = 9
  · subst h
    go_enter Tryd.func62, Tryd.ntmps62
    go_wp2
    go_ret
    exact ⟨rfl, rfl⟩
  · have h1 : ((v : Int) == 9) = false := beq_false_of_ne (by omega)
    rw [decide_eq_false h, Bool.false_or]
    go_enter Tryd.func62, Tryd.ntmps62
    go_wp2_with fail
    go_at_call 49
    with_reducible refine c.mono ?_
    rintro e w3 ⟨rfl, rfl⟩
    go_wp2
    go_ret
    exact ⟨rfl, rfl⟩
set_option maxHeartbeats 2000000 in
set_option maxRecDepth 100000 in
theorem inName_any (b : UInt8) (w : World) : Calls Tryd.prog 61 #[.int .u8 (b.toNat : Int)] w fun e w' => e = .returned (.bool (nmC b)) ∧ w' = w := by
  have c := isGreat_any b w
  have hg : rgB 65 90 false b = decide (65 ≤ b.toNat ∧ b.toNat ≤ 90) := by
    unfold rgB
    rw [Bool.false_and, Bool.or_false]
  rw [hg] at c
  have H := nm_of b b.toNat rfl
  generalize nmC b = R at H ⊢
  generalize b.toNat = v at H c ⊢
  by_cases h : 65 ≤ v ∧ v ≤ 90
  · rw [decide_eq_true h] at c
    have hR : true = R := H.out true ⟨fun _ => .inr (.inl h), fun _ => rfl⟩
    subst hR
    go_enter Tryd.func61, Tryd.ntmps61
    go_wp2_with fail
    go_at_call 35
    with_reducible refine c.mono ?_
    rintro e w3 ⟨rfl, rfl⟩
    go_wp2
    go_ret
    exact ⟨rfl, rfl⟩
  · rw [decide_eq_false h] at c
    go_enter Tryd.func61, Tryd.ntmps61
    go_wp2_with fail
    go_at_call 35
    with_reducible refine c.mono ?_
    rintro e w3 ⟨rfl, rfl⟩
    go_wp2
    all_goals
      go_ret
      exact ⟨ret_bool (H.out _ (by first | omega | (simp; omega))), rfl⟩

/-! ### texts of such bytes -/
/-- a function that tells q of a byte -/
def ByteF (g : Nat) (q : UInt8 → Bool) : Prop := ∀ (b : UInt8) (W : World), Calls Tryd.prog g #[.int .u8 (b.toNat : Int)] W fun e w' => e = .returned (.bool (q b)) ∧ w' = W
set_option maxHeartbeats 4000000 in
set_option maxRecDepth 100000 in
theorem made_any (g : Nat) (q : UInt8 → Bool) (eg : ∀ args w, (callFunc g args).run Tryd.prog w = .ok (.enter g args) w) (hq : ByteF g q) (s : ByteArray) (w : World) (hs : s.size ≤ 9223372036854775807) :
    Calls Tryd.prog 34 #[.string s, .func (.func g) #[] #[]] w fun e w' => e = .returned (.bool (s.data.toList.all q)) ∧ w' = w := by
  obtain ⟨R, hR⟩ : ∃ R, s.data.toList.all q = R := ⟨_, rfl⟩
  rw [hR]
  have hR' := Lib.hid hR
  clear hR
  go_enter Tryd.func34, Tryd.ntmps34
  go_wp2
  go_loopw [5] (fun s3 wr => ∃ k : Nat, s3 = .int .i64 (k : Int) ∧ k ≤ s.size ∧ (s.data.toList.take k).all q = true ∧ wr = w) (fun s3 wr => s.size - (RowKit.intOf s3).toNat)
  case atStart => exact ⟨0, rfl, Nat.zero_le _, rfl, rfl⟩
  case round =>
    obtain ⟨k, rfl, hk, hall, rfl⟩ := hrel
    by_cases hlt : k < s.size
    · have hst := all_step hlt hall
      have hno := all_no (p := q) hlt
      have c := hq (s[k]'hlt) wr
      cases hb : q (s[k]'hlt) with
      | true =>
        rw [hb] at c hst
        have hst' := Lib.hid hst
        clear hst hno hb hall
        go_wp2_with fail
        go_at_fn g
        with_reducible refine c.mono ?_
        rintro e w3 ⟨rfl, rfl⟩
        go_wp2
        go_roundw
        case rel => exact ⟨k + 1, by go_num, by omega, hst'.out, trivial⟩
        case measure => simp [RowKit.intOf]; omega
      | false =>
        rw [hb] at c
        have hRf : R = false := by rw [← hR'.out]; exact hno hb
        subst hRf
        clear hst hno hb hall
        go_wp2_with fail
        go_at_fn g
        with_reducible refine c.mono ?_
        rintro e w3 ⟨rfl, rfl⟩
        go_wp2
        go_ret
        exact ⟨rfl, rfl⟩
    · have hRt : R = true := by
        rw [← hR'.out, ← hall, List.take_of_length_le (by rw [← Lib.size_eq]; omega)]
      clear hall
      subst hRt
      go_wp2
      go_ret
      exact ⟨rfl, rfl⟩
end Go.Proofs.YtiaollhiggeolaaDoor.Ht
