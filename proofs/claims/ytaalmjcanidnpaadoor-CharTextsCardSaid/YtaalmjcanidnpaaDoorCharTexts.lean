/-
  THE WALK OF THE STATEMENT CharTexts: for all strings a and b within the reach.
-/
import Derived.Test.YtaalmjcanidnpaaDoorCharJoins
import Derived.Test.YtaalmjcanidnpaaDoorCharRefValid
set_option linter.unusedVariables false
namespace Go.Proofs.YtaalmjcanidnpaaDoor.Ch
open Go.Lib Go.RowKit

theorem refLowerL (l : List UInt8) (s : ByteArray) (w : World) (hl : s.data.toList = l) (hs : l.length ≤ 140737488351232) :
    Calls Tryd.prog 12 #[.string s] w fun e w' => e = .returned (.string ⟨(low l).toArray⟩) ∧ Below w.heap.size w w' := by
  subst hl; exact refLower_any s w (by rw [Lib.size_eq]; omega)
theorem refUpperL (l : List UInt8) (s : ByteArray) (w : World) (hl : s.data.toList = l) (hs : l.length ≤ 140737488351232) :
    Calls Tryd.prog 14 #[.string s] w fun e w' => e = .returned (.string ⟨(up l).toArray⟩) ∧ Below w.heap.size w w' := by
  subst hl; exact refUpper_any s w (by rw [Lib.size_eq]; omega)
theorem refValidL (l : List UInt8) (v : Bool) (s : ByteArray) (w : World) (hl : s.data.toList = l) (hv : valid l = v) (hs : l.length ≤ 140737488351232) :
    Calls Tryd.prog 10 #[.string s] w fun e w' => e = .returned (.bool v) ∧ w = w' := by
  subst hv; subst hl; exact refValid_any s w (by rw [Lib.size_eq]; omega)

set_option maxHeartbeats 4000000 in
set_option maxRecDepth 100000 in
theorem texts_walk (a b : ByteArray) (la lb : List UInt8) (w : World) (ha : a = ⟨la.toArray⟩) (hb : b = ⟨lb.toArray⟩) (hal : la.length ≤ 140737488351232) (hbl : lb.length ≤ 140737488351232) (hT : Tabs w) :
    Calls Tryd.prog 3 #[.string a, .string b] w fun e w' => e = .returned (.bool true) ∧ Below w.heap.size w w' := by
  subst ha; subst hb
  have hT' := Lib.hid hT
  clear hT
  obtain ⟨v, hv⟩ : ∃ v, valid la = v := ⟨_, rfl⟩
  have hv' := Lib.hid hv
  clear hv
  go_enter Tryd.func3, Tryd.ntmps3
  go_wp2_with fail
  go_at_call 8
  refine (first_any w hT'.out).mono ?_
  rintro e w1 ⟨rfl, hb1⟩
  go_wp2_with fail
  go_at_call 9
  refine (validL la v _ w1 rfl hv'.out (by omega) (tabs_below hT'.out hb1)).mono ?_
  rintro e w2 ⟨rfl, hb2⟩
  replace hb2 := below_then hb1 hb2
  clear hb1
  go_wp2_with fail
  go_at_call 10
  refine (refValidL la v _ w2 rfl hv'.out hal).mono ?_
  rintro e w2' ⟨rfl, rfl⟩
  go_wp2_with fail
  go_at_call 11
  refine (lowerL la _ w2 rfl (by omega)).mono ?_
  rintro e w3 ⟨rfl, hb3⟩
  replace hb3 := below_then hb2 hb3
  clear hb2
  go_wp2_with fail
  go_at_call 12
  refine (refLowerL la _ w3 rfl hal).mono ?_
  rintro e w4 ⟨rfl, hb4⟩
  replace hb4 := below_then hb3 hb4
  clear hb3
  go_wp2_with fail
  go_at_call 13
  refine (upperL la _ w4 rfl (by omega)).mono ?_
  rintro e w5 ⟨rfl, hb5⟩
  replace hb5 := below_then hb4 hb5
  clear hb4
  go_wp2_with fail
  go_at_call 14
  refine (refUpperL la _ w5 rfl hal).mono ?_
  rintro e w6 ⟨rfl, hb6⟩
  replace hb6 := below_then hb5 hb6
  clear hb5
  go_wp2_with fail
  go_at_call 15
  refine (sameL la lb _ _ w6 rfl rfl (by omega) (by omega)).mono ?_
  rintro e w7 ⟨rfl, hb7⟩
  replace hb7 := below_then hb6 hb7
  clear hb6
  go_wp2_with fail
  go_at_call 12
  refine (refLowerL la _ w7 rfl hal).mono ?_
  rintro e w8 ⟨rfl, hb8⟩
  replace hb8 := below_then hb7 hb8
  clear hb7
  go_wp2_with fail
  go_at_call 12
  refine (refLowerL lb _ w8 rfl hbl).mono ?_
  rintro e w9 ⟨rfl, hb9⟩
  replace hb9 := below_then hb8 hb9
  clear hb8
  go_wp2
  go_ret
  exact ⟨rfl, hb9⟩
end Go.Proofs.YtaalmjcanidnpaaDoor.Ch
