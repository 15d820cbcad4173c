/-
  THE WALK OF 'first': what the statements of layer char ask ahead of everything else.
-/
import Derived.Test.YtaalmjcanidnpaaDoorCharValid
import Derived.Test.YtaalmjcanidnpaaDoorCharNum
set_option linter.unusedVariables false
namespace Go.Proofs.YtaalmjcanidnpaaDoor.Ch
open Go.Lib Go.RowKit

theorem first1 (w : World) : Calls Tryd.prog 16 #[.string ⟨#[57, 48]⟩, .int .u64 90] w fun e w' => e = .returned (.tuple #[.int .u64 90, .bool true]) ∧ w = w' :=
  (number_any ⟨#[57, 48]⟩ 90 w (by decide) (by decide)).mono fun e w' ⟨he, hw⟩ => ⟨he.trans (by rw [show numS (⟨#[57, 48]⟩ : ByteArray).data.toList 90 = (90, true) by kernel_rfl]; rfl), hw⟩
theorem first2 (w : World) : Calls Tryd.prog 16 #[.string ⟨#[48, 55]⟩, .int .u64 9] w fun e w' => e = .returned (.tuple #[.int .u64 0, .bool false]) ∧ w = w' :=
  (number_any ⟨#[48, 55]⟩ 9 w (by decide) (by decide)).mono fun e w' ⟨he, hw⟩ => ⟨he.trans (by rw [show numS (⟨#[48, 55]⟩ : ByteArray).data.toList 9 = (0, false) by kernel_rfl]; rfl), hw⟩
theorem first3 (w : World) : Calls Tryd.prog 11 #[.string ⟨#[65, 98, 45, 49]⟩] w fun e w' => e = .returned (.string ⟨#[97, 98, 45, 49]⟩) ∧ Below w.heap.size w w' :=
  (lower_any ⟨#[65, 98, 45, 49]⟩ w (by decide)).mono fun e w' ⟨he, hw⟩ => ⟨he.trans (by rw [show low (⟨#[65, 98, 45, 49]⟩ : ByteArray).data.toList = [97, 98, 45, 49] by kernel_rfl]), hw⟩
theorem first4 (w : World) (hT : Tabs w) : Calls Tryd.prog 9 #[.string ⟨#[97]⟩] w fun e w' => e = .returned (.bool true) ∧ Below w.heap.size w w' :=
  (valid_any ⟨#[97]⟩ w (by decide) hT).mono fun e w' ⟨he, hw⟩ => ⟨he.trans (by rw [show valid (⟨#[97]⟩ : ByteArray).data.toList = true by kernel_rfl]), hw⟩
theorem first5 (w : World) (hT : Tabs w) : Calls Tryd.prog 9 #[.string ⟨#[1]⟩] w fun e w' => e = .returned (.bool false) ∧ Below w.heap.size w w' :=
  (valid_any ⟨#[1]⟩ w (by decide) hT).mono fun e w' ⟨he, hw⟩ => ⟨he.trans (by rw [show valid (⟨#[1]⟩ : ByteArray).data.toList = false by kernel_rfl]), hw⟩

theorem below_then {a b c : World} (h1 : Below a.heap.size a b) (h2 : Below b.heap.size b c) : Below a.heap.size a c := h1.trans (h2.mono h1.size)

set_option maxHeartbeats 1000000 in
set_option maxRecDepth 100000 in
theorem first_any (w : World) (hT : Tabs w) : Calls Tryd.prog 8 #[] w fun e w' => e = .returned (.bool true) ∧ Below w.heap.size w w' := by
  have hT' := Lib.hid hT
  clear hT
  go_enter Tryd.func8, Tryd.ntmps8
  go_wp2_with fail
  go_at_call 16
  refine (first1 w).mono ?_
  rintro e w1 ⟨rfl, rfl⟩
  go_wp2_with fail
  go_at_call 16
  refine (first2 w).mono ?_
  rintro e w1 ⟨rfl, rfl⟩
  go_wp2_with fail
  go_at_call 11
  refine (first3 w).mono ?_
  rintro e w1 ⟨rfl, hb1⟩
  go_wp2_with fail
  go_at_call 9
  refine (first4 w1 (tabs_below hT'.out hb1)).mono ?_
  rintro e w2 ⟨rfl, hb2⟩
  go_wp2_with fail
  go_at_call 9
  refine (first5 w2 (tabs_below hT'.out (below_then hb1 hb2))).mono ?_
  rintro e w3 ⟨rfl, hb3⟩
  go_wp2
  go_ret
  exact ⟨rfl, below_then (below_then hb1 hb2) hb3⟩
end Go.Proofs.YtaalmjcanidnpaaDoor.Ch
