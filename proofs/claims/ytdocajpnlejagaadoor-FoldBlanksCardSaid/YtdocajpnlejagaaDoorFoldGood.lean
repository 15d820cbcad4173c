/-
  THE WALK OF fold.Good.
-/
import Derived.Test.YtdocajpnlejagaaDoorAnyEnds
import Derived.Test.YtdocajpnlejagaaDoorFoldRefGood
set_option linter.unusedVariables false
namespace Go.Proofs.YtdocajpnlejagaaDoor.Fo
open Go.Lib Go.RowKit Bu

theorem goodL_ends (l : Row) (h1 : l ≠ []) (h2 : headBl l = false) : goodL l = !An.ends l := by
  unfold goodL An.ends
  rw [h2]
  cases l with
  | nil => exact absurd rfl h1
  | cons x l => simp [Bool.not_or]

set_option maxHeartbeats 2000000 in
set_option maxRecDepth 100000 in
theorem good_any (s : ByteArray) (w : World) (hs : s.size ≤ 140737488355328) :
    Calls Tryd.prog 13 #[.string s] w fun e w' => e = .returned (.bool (goodL s.data.toList)) ∧ Below w.heap.size w w' := by
  by_cases h0 : s.data.toList = []
  · rw [goodL_no _ (.inl h0)]
    have he := empty_of s h0
    clear h0
    go_enter Tryd.func13, Tryd.ntmps13
    go_wp2
    go_ret
    exact ⟨rfl, Below.refl _ _⟩
  · have he := nonempty_of s h0
    have hp : 0 < s.size := by rw [Lib.size_eq]; exact List.length_pos_iff.2 h0
    have hhd := headBl_get s hp
    cases hv : bl (s[0]'hp)
    · rw [goodL_ends _ h0 (hhd.trans hv)]
      have cB := fun W => blank_is (s[0]'hp) false W hv
      have cE := fun W => An.containsAny_all s W hs
      obtain ⟨E, hE⟩ : ∃ E, An.ends s.data.toList = E := ⟨_, rfl⟩
      rw [hE] at cE ⊢
      clear hE hhd hv h0
      go_enter Tryd.func13, Tryd.ntmps13
      go_wp2_with (first
        | (go_at_call 18; refine (cB _).mono ?_; rintro e w' ⟨rfl, rfl⟩)
        | (go_at_call 19; refine (cE _).mono ?_; rintro e w3 ⟨rfl, hb3⟩))
      go_ret
      exact ⟨rfl, hb3⟩
    · rw [goodL_no _ (.inr (.inl (hhd.trans hv)))]
      have cB := fun W => blank_is (s[0]'hp) true W hv
      clear hhd hv h0
      go_enter Tryd.func13, Tryd.ntmps13
      go_wp2_with (go_at_call 18; refine (cB _).mono ?_; rintro e w' ⟨rfl, rfl⟩)
      go_ret
      exact ⟨rfl, Below.refl _ _⟩
end Go.Proofs.YtdocajpnlejagaaDoor.Fo
