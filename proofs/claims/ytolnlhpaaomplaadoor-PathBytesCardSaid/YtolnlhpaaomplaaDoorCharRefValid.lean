/-
  THE WALK OF THE REFERENCE's Valid.
-/
import Derived.Test.YtolnlhpaaomplaaDoorCharRune
set_option linter.unusedVariables false
namespace Go.Proofs.YtolnlhpaaomplaaDoor.Ch
open Go.Lib Go.RowKit

def strLen : Value → Nat
  | .string t => t.size
  | _ => 0
theorem drop_text (t : ByteArray) (k : Nat) : (t.extract k t.size).data.toList = t.data.toList.drop k := by
  exact Lib.extract_to_end t k

set_option maxHeartbeats 2000000 in
set_option maxRecDepth 100000 in
theorem refValid_any (s : ByteArray) (w : World) (hs : s.size ≤ 9223372036854775807) :
    Calls Tryd.prog 18 #[.string s] w fun e w' => e = .returned (.bool (valid s.data.toList)) ∧ w = w' := by
  obtain ⟨A, hA⟩ : ∃ A, valid s.data.toList = A := ⟨_, rfl⟩
  rw [hA]
  have hA' := Lib.hid hA
  clear hA
  go_enter Tryd.func18, Tryd.ntmps18
  go_wp2
  go_loop [0] (fun s0 => ∃ t : ByteArray, s0 = .string t ∧ valid t.data.toList = A ∧ t.size ≤ 9223372036854775807) (fun s0 => strLen s0)
  case atStart => exact ⟨s, rfl, hA'.out, hs⟩
  case round =>
    obtain ⟨t, rfl, hv, ht⟩ := hrel
    have hv' := Lib.hid hv
    clear hv
    by_cases h0 : t.size = 0
    · have hn : A = true := by
        rw [← hv'.out, List.eq_nil_of_length_eq_zero (show t.data.toList.length = 0 by rw [← Lib.size_eq]; exact h0)]; rfl
      have hn' := Lib.hid hn
      clear hn
      go_wp2
      go_ret
      exact ⟨by rw [hn'.out]; rfl, rfl⟩
    · have hp : 0 < t.size := by omega
      have hne : t.data.toList ≠ [] := fun h => h0 (by rw [Lib.size_eq, h]; rfl)
      have hstep := valid_step t.data.toList hne
      obtain ⟨⟨r, n⟩, hr⟩ : ∃ p, rune t.data.toList = p := ⟨_, rfl⟩
      rw [hr] at hstep
      have hstep' := Lib.hid hstep
      have hbound : n ≠ 0 → n ≤ t.size := fun h => by
        have := (rune_tells hne (by rw [hr]; exact h)).1
        rw [hr, ← Lib.size_eq] at this
        exact this
      have cR : ∀ W, Calls Tryd.prog 28 #[.string t] W fun e w' => e = .returned (.tuple #[.int .i64 (r : Int), .int .i64 (n : Int)]) ∧ W = w' := fun W => by
        have := rune_any t W ht
        rw [hr] at this
        exact this
      clear hr hstep hne h0
      by_cases hbad : n = 0 ∨ ctlN r = true
      · have hn : A = false := by rw [← hv'.out, hstep'.out, if_pos hbad]
        have hn' := Lib.hid hn
        have hb2 : n = 0 ∨ (n ≠ 0 ∧ r = 127) ∨ (n ≠ 0 ∧ r ≠ 127 ∧ r < 32 ∧ r ≠ 9 ∧ r ≠ 10 ∧ r ≠ 13) := by
          rcases hbad with h | h
          · exact .inl h
          · have := of_decide_eq_true h
            omega
        clear hn hbad hbound
        rcases hb2 with h | ⟨h, h1⟩ | ⟨h, h1, h2, h3, h4, h5⟩
        · subst h
          go_wp2_with (go_at_call 28; refine (cR _).mono ?_; rintro e w' ⟨rfl, rfl⟩)
          go_ret
          exact ⟨by rw [hn'.out]; rfl, rfl⟩
        · subst h1
          have d0 : ((n : Int) == 0) = false := by simp; omega
          go_wp2_with (go_at_call 28; refine (cR _).mono ?_; rintro e w' ⟨rfl, rfl⟩)
          go_ret
          exact ⟨by rw [hn'.out]; rfl, rfl⟩
        · have d0 : ((n : Int) == 0) = false := by simp; omega
          have d1 : ((r : Int) == 127) = false := by simp; omega
          have d3 : ((r : Int) != 9) = true := by simp; omega
          have d4 : ((r : Int) != 10) = true := by simp; omega
          have d5 : ((r : Int) != 13) = true := by simp; omega
          go_wp2_with (go_at_call 28; refine (cR _).mono ?_; rintro e w' ⟨rfl, rfl⟩)
          go_ret
          exact ⟨by rw [hn'.out]; rfl, rfl⟩
      · have hn : valid (t.data.toList.drop n) = A := by rw [← hv'.out, hstep'.out, if_neg hbad]
        have hn' := Lib.hid hn
        have hb1 : n ≠ 0 := fun h => hbad (.inl h)
        have hb2 : (32 ≤ r ∧ r ≠ 127) ∨ r = 9 ∨ r = 10 ∨ r = 13 := by
          have h : ¬ ctlN r = true := fun h => hbad (.inr h)
          unfold ctlN at h
          rw [decide_eq_true_iff] at h
          omega
        have hle := hbound hb1
        clear hn hbad hbound
        have d0 : ((n : Int) == 0) = false := by simp; omega
        rcases hb2 with ⟨h1, h2⟩ | rfl | rfl | rfl
        · have d1 : ((r : Int) == 127) = false := by simp; omega
          go_wp2_with (go_at_call 28; refine (cR _).mono ?_; rintro e w' ⟨rfl, rfl⟩)
          go_round
          case rel => exact ⟨_, rfl, by rw [drop_text]; exact hn'.out, by rw [ByteArray.size_extract]; omega⟩
          case measure => simp [strLen, ByteArray.size_extract]; omega
        all_goals
          go_wp2_with (go_at_call 28; refine (cR _).mono ?_; rintro e w' ⟨rfl, rfl⟩)
          go_round
          case rel => exact ⟨_, rfl, by rw [drop_text]; exact hn'.out, by rw [ByteArray.size_extract]; omega⟩
          case measure => simp [strLen, ByteArray.size_extract]; omega
end Go.Proofs.YtolnlhpaaomplaaDoor.Ch
