/-
  THE WALK OF calepinlaw13.first, over what the program's calls must keep.
-/
import Derived.Test.YtnmcgmfpalgpnaaSesSpec
set_option linter.unusedVariables false
namespace Go.Proofs.Ytnmcgmfpalgpnaa.Se
open Go.Lib Go.RowKit

abbrev OpenS : Prop := OpenC eS nS 26 42 8
abbrev AskS : Prop := AskC eS nS 26 42 10
abbrev DoneS : Prop := DoneC eS nS 26 42 12
abbrev RowsS : Prop := RowsC eS 26 42 14
abbrev SetS : Prop := SetC eS 26 42 15
abbrev xS : ByteArray := ⟨#[120]⟩
theorem f_open : openT nS [] 4 = ([⟨4, 0, 4, nS⟩], true) := rfl
theorem f_done : doneT nS [⟨4, 0, 4, nS⟩] 4 1 5 xS = ([⟨4, 1, 5, xS⟩], true) := rfl
theorem f_again : askE eS nS [⟨4, 1, 5, xS⟩] 4 1 = .returned (.tuple #[.int .i64 2, .string xS]) := rfl
theorem f_fresh : askE eS nS [⟨4, 1, 5, xS⟩] 4 3 = .returned (.tuple #[.int .i64 1, .string nS]) := rfl
theorem f_none : askE eS nS [⟨4, 1, 5, xS⟩] 5 1 = .returned (.tuple #[.int .i64 0, .string nS]) := rfl
theorem f_shut : openT nS [⟨4, 1, 5, xS⟩] 4 = ([⟨4, 1, 5, xS⟩], false) := rfl

set_option maxHeartbeats 8000000 in
set_option maxRecDepth 100000 in
theorem first_any (hO : OpenS) (hA : AskS) (hD : DoneS) (w : World) : Calls Try.prog 7 #[] w fun e w' => e = .returned (.bool true) ∧ Below w.heap.size w w' := by
  have hT0 := fresh_tab eS 26 42 w
  have hb0 : Below w.heap.size w (w.alloc (.cells #[.slice none 0 0] 26)) := (Below.refl _ _).alloc (Nat.le_refl _) _
  have cO := hO _ _ _ _ 4 _ hT0 hb0.size (by simp) (by simp)
  rw [f_open] at cO
  have hE : ((⟨#[120]⟩ : ByteArray).toList == (⟨#[120]⟩ : ByteArray).toList) = true := by simp
  have hb0' := Lib.hid hb0
  have hT0' := Lib.hid hT0
  clear hb0 hT0
  go_enter Try.func7, Try.ntmps7
  go_wp2_with fail
  go_at_call 8
  refine cO.mono ?_
  rintro e w1 ⟨rfl, hA1⟩
  have hb1 := hA1.below hT0'.out hb0'.out hb0'.out.size
  obtain ⟨v1, hT1, _, _⟩ := hA1
  have cD := hD _ _ _ _ 4 1 5 xS _ hT1 hb1.size (by simp) (by simp)
  rw [f_done] at cD
  have hb1' := Lib.hid hb1
  have hT1' := Lib.hid hT1
  clear hb1 hT1 cO
  go_wp2_with fail
  go_at_call 12
  refine cD.mono ?_
  rintro e w2 ⟨rfl, hA2⟩
  have hb2 := hA2.below hT1'.out hb1'.out hb1'.out.size
  obtain ⟨v2, hT2, _, _⟩ := hA2
  have cA1 := hA _ _ _ _ 4 1 _ hT2 hb2.size (by simp)
  rw [f_again] at cA1
  clear cD
  go_wp2_with fail
  go_at_call 10
  refine cA1.mono ?_
  rintro e w3 ⟨rfl, hb3⟩
  have hT3 := hT2.kept hb3
  have hb3 := hb2.trans (hb3.mono hb2.size)
  have cA2 := hA _ _ _ _ 4 3 _ hT3 hb3.size (by simp)
  rw [f_fresh] at cA2
  clear cA1 hT2 hb2
  go_wp2_with fail
  go_at_call 10
  refine cA2.mono ?_
  rintro e w4 ⟨rfl, hb4⟩
  have hT4 := hT3.kept hb4
  have hb4 := hb3.trans (hb4.mono hb3.size)
  have cA3 := hA _ _ _ _ 5 1 _ hT4 hb4.size (by simp)
  rw [f_none] at cA3
  clear cA2 hT3 hb3
  go_wp2_with fail
  go_at_call 10
  refine cA3.mono ?_
  rintro e w5 ⟨rfl, hb5⟩
  have hT5 := hT4.kept hb5
  have hb5 := hb4.trans (hb5.mono hb4.size)
  have cO2 := hO _ _ _ _ 4 _ hT5 hb5.size (by simp) (by simp)
  rw [f_shut] at cO2
  have hb5' := Lib.hid hb5
  have hT5' := Lib.hid hT5
  clear cA3 hT4 hb4 hb5 hT5
  go_wp2_with fail
  go_at_call 8
  refine cO2.mono ?_
  rintro e w6 ⟨rfl, hA6⟩
  have hb6 := hA6.below hT5'.out hb5'.out hb5'.out.size
  have hb6' := Lib.hid hb6
  clear hA6 hb6 cO2
  go_wp2
  go_ret
  exact ⟨rfl, hb6'.out⟩
end Go.Proofs.Ytnmcgmfpalgpnaa.Se
