/-
  WALKS OF THE REFERENCE OF LAYER path: bare, hex, Fits.
-/
import Derived.Test.YtolnlhpaaomplaaDoorPathPlain
import Derived.Test.YtolnlhpaaomplaaDoorCharRefValid
set_option linter.unusedVariables false
namespace Go.Proofs.YtolnlhpaaomplaaDoor.Pa
open Go.Lib Go.RowKit

theorem ret_bool {a b : Bool} (h : a = b) : Ending.returned (.bool a) = .returned (.bool b) := by rw [h]
theorem bare_of (b : UInt8) (v : Nat) (h : b.toNat = v) : Hid (∀ r : Bool, (r = true ↔ ((97 ≤ v ∧ v ≤ 122) ∨ (65 ≤ v ∧ v ≤ 90) ∨ (48 ≤ v ∧ v ≤ 57) ∨ v = 45 ∨ v = 46 ∨ v = 95 ∨ v = 126)) → r = bare b) := Lib.hid fun r hr => by
  have h1 : ∀ n : Nat, n < 256 → (b = UInt8.ofNat n ↔ v = n) := fun n hn => by
    rw [← h]
    constructor
    · intro e; rw [e]; simp; omega
    · intro e; rw [← e]; simp
  have e1 := h1 45 (by decide)
  have e2 := h1 46 (by decide)
  have e3 := h1 95 (by decide)
  have e4 := h1 126 (by decide)
  unfold bare
  rw [h, Bool.eq_iff_iff, hr, decide_eq_true_iff]
  rw [← e1, ← e2, ← e3, ← e4]
  exact Iff.rfl

set_option maxHeartbeats 2000000 in
set_option maxRecDepth 100000 in
theorem refBare_any (b : UInt8) (w : World) : Calls Tryd.prog 19 #[.int .u8 (b.toNat : Int)] w fun e w' => e = .returned (.bool (bare b)) ∧ w = w' := by
  have H := bare_of b b.toNat rfl
  generalize bare b = R at H ⊢
  generalize b.toNat = v at H ⊢
  go_enter Tryd.func19, Tryd.ntmps19
  go_wp2
  all_goals
    go_ret
    exact ⟨ret_bool (H.out _ (by first | omega | (simp; omega))), rfl⟩

theorem hexv_lt (b : UInt8) : hexv b ≤ 16 := by
  unfold hexv
  by_cases c1 : 48 ≤ b.toNat ∧ b.toNat ≤ 57
  · rw [if_pos c1]; omega
  · rw [if_neg c1]
    by_cases c2 : 65 ≤ b.toNat ∧ b.toNat ≤ 70
    · rw [if_pos c2]; omega
    · rw [if_neg c2]
      by_cases c3 : 97 ≤ b.toNat ∧ b.toNat ≤ 102
      · rw [if_pos c3]; omega
      · rw [if_neg c3]; omega
set_option maxHeartbeats 2000000 in
set_option maxRecDepth 100000 in
theorem refHex_any (b : UInt8) (w : World) : Calls Tryd.prog 32 #[.int .u8 (b.toNat : Int)] w fun e w' => e = .returned (.int .i64 (hexv b : Int)) ∧ w = w' := by
  obtain ⟨R, hR⟩ : ∃ R, hexv b = R := ⟨_, rfl⟩
  have hlt := b.toNat_lt
  rw [hR]
  unfold hexv at hR
  generalize b.toNat = v at hR hlt ⊢
  by_cases c1 : 48 ≤ v ∧ v ≤ 57
  · rw [if_pos c1] at hR
    obtain ⟨c1, c2⟩ := c1
    go_enter Tryd.func32, Tryd.ntmps32
    go_wp2
    go_ret
    refine ⟨?_, rfl⟩
    show Ending.returned (.int .i64 ((v : Int) - 48)) = _
    congr 2; omega
  · rw [if_neg c1] at hR
    by_cases c2 : 65 ≤ v ∧ v ≤ 70
    · rw [if_pos c2] at hR
      obtain ⟨c3, c4⟩ := c2
      clear c1
      go_enter Tryd.func32, Tryd.ntmps32
      go_wp2
      go_ret
      refine ⟨?_, rfl⟩
      show Ending.returned (.int .i64 ((v : Int) - 65 + 10)) = _
      congr 2; omega
    · rw [if_neg c2] at hR
      by_cases c3 : 97 ≤ v ∧ v ≤ 102
      · rw [if_pos c3] at hR
        obtain ⟨c4, c5⟩ := c3
        clear c1 c2
        go_enter Tryd.func32, Tryd.ntmps32
        go_wp2
        go_ret
        refine ⟨?_, rfl⟩
        show Ending.returned (.int .i64 ((v : Int) - 97 + 10)) = _
        congr 2; omega
      · rw [if_neg c3] at hR
        subst hR
        go_enter Tryd.func32, Tryd.ntmps32
        go_wp2
        all_goals
          first
            | (exfalso; omega)
            | (go_ret; exact ⟨rfl, rfl⟩)

theorem fits_of (s : ByteArray) (h : Ch.valid s.data.toList = true) : fits s.data.toList = (decide (0 < s.size ∧ s.size < 65) && decide (s.toList ≠ [46] ∧ s.toList ≠ [46, 46])) := by
  unfold fits
  rw [h, Lib.toList_data, Lib.size_eq, Bool.true_and]
set_option maxHeartbeats 2000000 in
set_option maxRecDepth 100000 in
theorem refFits_any (s : ByteArray) (w : World) (hs : s.size ≤ 9223372036854775807) :
    Calls Tryd.prog 9 #[.string s] w fun e w' => e = .returned (.bool (fits s.data.toList)) ∧ w = w' := by
  have cV := Ch.refValid_any s w hs
  obtain ⟨V, hV⟩ : ∃ V, Ch.valid s.data.toList = V := ⟨_, rfl⟩
  rw [hV] at cV
  have hV' := Lib.hid hV
  clear hV
  cases V with
  | false =>
    go_enter Tryd.func9, Tryd.ntmps9
    go_wp2_with fail
    go_at_call 18
    refine cV.mono ?_
    rintro e w2 ⟨rfl, rfl⟩
    go_wp2
    go_ret
    exact ⟨ret_bool (by unfold fits; rw [hV'.out]; rfl), rfl⟩
  | true =>
    go_enter Tryd.func9, Tryd.ntmps9
    go_wp2_with fail
    go_at_call 18
    refine cV.mono ?_
    rintro e w2 ⟨rfl, rfl⟩
    go_wp2
    all_goals
      go_ret
      refine ⟨ret_bool ?_, rfl⟩
      rw [fits_of s hV'.out]
      first
        | (have g : decide (0 < s.size ∧ s.size < 65) = false := decide_eq_false (by omega)
           rw [g]; rfl)
        | (have g : decide (0 < s.size ∧ s.size < 65) = true := decide_eq_true (by omega)
           rw [g, Bool.true_and, Bool.eq_iff_iff]
           simp_all)
end Go.Proofs.YtolnlhpaaomplaaDoor.Pa
