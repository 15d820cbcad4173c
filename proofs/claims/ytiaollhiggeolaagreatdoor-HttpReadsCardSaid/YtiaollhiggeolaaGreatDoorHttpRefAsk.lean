/-
  WALKS OF THE REFERENCE OF LAYER http: Asked, Reason.
-/
import Derived.Test.YtiaollhiggeolaaGreatDoorHttpRef
import Derived.OwnWalk
set_option linter.unusedVariables false
namespace Go.Proofs.YtiaollhiggeolaaGreatDoor.Ht
open Go.Lib Go.RowKit

set_option maxHeartbeats 4000000 in
set_option maxRecDepth 100000 in
theorem refAsked_any (m t : ByteArray) (w : World) (h1 : m.size ≤ mostS) (h2 : t.size ≤ mostS) : Calls Tryz.prog 17 #[.string m, .string t] w fun e w' => e = .returned (.bool (asked m.data.toList t.data.toList)) ∧ Below w.heap.size w w' := by
  unfold mostS at h1 h2
  have c1 : Calls Tryz.prog 20 #[.string m, .int .u8 65, .int .u8 90, .bool false] w fun e w' => e = .returned (.bool (rng 65 90 false m.data.toList)) ∧ w' = w := refRange_any m 65 90 false w (by decide) (by decide) (by omega)
  have c2 : Calls Tryz.prog 20 #[.string t, .int .u8 33, .int .u8 126, .bool false] w fun e w' => e = .returned (.bool (rng 33 126 false t.data.toList)) ∧ w' = w := refRange_any t 33 126 false w (by decide) (by decide) (by omega)
  have e : asked m.data.toList t.data.toList = (decide (0 < m.size ∧ m.size < 17) && rng 65 90 false m.data.toList && (decide (0 < t.size ∧ t.size < 257) && rng 33 126 false t.data.toList)) := by
    unfold asked
    rw [← Lib.size_eq, ← Lib.size_eq]
  rw [e]
  clear e
  generalize rng 65 90 false m.data.toList = R1 at c1 ⊢
  generalize rng 33 126 false t.data.toList = R2 at c2 ⊢
  by_cases a1 : 0 < m.size
  rotate_left
  · go_enter Tryz.func17, Tryz.ntmps17
    go_wp2_with fail
    go_ret
    exact ⟨ret_bool (by simp [a1]), Below.refl _ _⟩
  by_cases a2 : m.size < 17
  rotate_left
  · go_enter Tryz.func17, Tryz.ntmps17
    go_wp2_with fail
    go_ret
    exact ⟨ret_bool (by simp), Below.refl _ _⟩
  cases R1 with
  | false =>
    go_enter Tryz.func17, Tryz.ntmps17
    go_wp2_with fail
    go_at_call 20
    with_reducible refine c1.mono ?_
    rintro e w1 ⟨rfl, rfl⟩
    go_wp2_with fail
    go_ret
    exact ⟨ret_bool (by simp), Below.refl _ _⟩
  | true =>
    by_cases b1 : 0 < t.size
    rotate_left
    · go_enter Tryz.func17, Tryz.ntmps17
      go_wp2_with fail
      go_at_call 20
      with_reducible refine c1.mono ?_
      rintro e w1 ⟨rfl, rfl⟩
      go_wp2_with fail
      go_ret
      exact ⟨ret_bool (by simp [b1]), Below.refl _ _⟩
    by_cases b2 : t.size < 257
    rotate_left
    · go_enter Tryz.func17, Tryz.ntmps17
      go_wp2_with fail
      go_at_call 20
      with_reducible refine c1.mono ?_
      rintro e w1 ⟨rfl, rfl⟩
      go_wp2_with fail
      go_ret
      exact ⟨ret_bool (by simp), Below.refl _ _⟩
    go_enter Tryz.func17, Tryz.ntmps17
    go_wp2_with fail
    go_at_call 20
    with_reducible refine c1.mono ?_
    rintro e w1 ⟨rfl, rfl⟩
    go_wp2_with fail
    go_at_call 20
    with_reducible refine c2.mono ?_
    rintro e w1 ⟨rfl, rfl⟩
    go_wp2_with fail
    go_ret
    exact ⟨ret_bool (by simp [a1, a2, b1, b2]), Below.refl _ _⟩
end Go.Proofs.YtiaollhiggeolaaGreatDoor.Ht
