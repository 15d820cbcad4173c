/-
  THE WALK OF THE STATEMENT CharJoins: for all strings a and b within the reach.
-/
import Derived.Test.YtaalmjcanidnpaaDoorCharFirst
set_option linter.unusedVariables false
namespace Go.Proofs.YtaalmjcanidnpaaDoor.Ch
open Go.Lib Go.RowKit

/-! ### the contracts over lists -/
theorem lowerL (l : List UInt8) (s : ByteArray) (w : World) (hl : s.data.toList = l) (hs : l.length ≤ 9223372036854775807) :
    Calls Tryd.prog 11 #[.string s] w fun e w' => e = .returned (.string ⟨(low l).toArray⟩) ∧ Below w.heap.size w w' := by
  subst hl; exact lower_any s w (by rw [Lib.size_eq]; exact hs)
theorem upperL (l : List UInt8) (s : ByteArray) (w : World) (hl : s.data.toList = l) (hs : l.length ≤ 9223372036854775807) :
    Calls Tryd.prog 13 #[.string s] w fun e w' => e = .returned (.string ⟨(up l).toArray⟩) ∧ Below w.heap.size w w' := by
  subst hl; exact upper_any s w (by rw [Lib.size_eq]; exact hs)
theorem sameL (l k : List UInt8) (s t : ByteArray) (w : World) (hl : s.data.toList = l) (hk : t.data.toList = k) (hs : l.length ≤ 9223372036854775807) (ht : k.length ≤ 9223372036854775807) :
    Calls Tryd.prog 15 #[.string s, .string t] w fun e w' => e = .returned (.bool (low l == low k)) ∧ Below w.heap.size w w' := by
  subst hl; subst hk; exact same_any s t w (by rw [Lib.size_eq]; exact hs) (by rw [Lib.size_eq]; exact ht)
theorem validL (l : List UInt8) (v : Bool) (s : ByteArray) (w : World) (hl : s.data.toList = l) (hv : valid l = v) (hs : l.length ≤ 9223372036854775807) (hT : Tabs w) :
    Calls Tryd.prog 9 #[.string s] w fun e w' => e = .returned (.bool v) ∧ Below w.heap.size w w' := by
  subst hv; subst hl; exact valid_any s w (by rw [Lib.size_eq]; exact hs) hT
theorem list_of (s : ByteArray) : s = ⟨s.data.toList.toArray⟩ := by cases s; simp

theorem data_append (la lb : List UInt8) : ((⟨la.toArray⟩ : ByteArray) ++ ⟨lb.toArray⟩).data.toList = la ++ lb := by simp
theorem joins_eq (la lb : List UInt8) : (⟨(low la).toArray⟩ : ByteArray) ++ ⟨(low lb).toArray⟩ = ⟨(low (la ++ lb)).toArray⟩ := by
  apply ByteArray.ext
  apply Array.toList_inj.1
  rw [data_append, low_append]

set_option maxHeartbeats 4000000 in
set_option maxRecDepth 100000 in
theorem joins_walk (a b : ByteArray) (la lb : List UInt8) (w : World) (ha : a = ⟨la.toArray⟩) (hb : b = ⟨lb.toArray⟩) (hal : la.length ≤ 140737488351232) (hbl : lb.length ≤ 140737488351232) (hT : Tabs w) :
    Calls Tryd.prog 4 #[.string a, .string b] w fun e w' => e = .returned (.bool true) ∧ Below w.heap.size w w' := by
  subst ha; subst hb
  have hT' := Lib.hid hT
  have hb0 := Below.refl w.heap.size w
  clear hT
  have hul := up_low la
  have hlu := low_up la
  have hje := joins_eq la lb
  have hlen := low_length la
  have hlen2 := low_length lb
  by_cases hv : valid la = true
  · have hj := valid_join la lb hv
    obtain ⟨v, hv2⟩ : ∃ v, valid lb = v := ⟨_, rfl⟩
    rw [hv2] at hj
    have hv' := Lib.hid hv
    have hv2' := Lib.hid hv2
    have hj' := Lib.hid hj
    clear hv hv2 hj
    go_enter Tryd.func4, Tryd.ntmps4
    go_wp2_with fail
    go_at_call 8
    refine (first_any w hT'.out).mono ?_
    rintro e w1 ⟨rfl, hb1⟩
    go_wp2_with fail
    go_at_call 9
    refine (validL la true _ w1 rfl hv'.out (by omega) (tabs_below hT'.out hb1)).mono ?_
    rintro e w2 ⟨rfl, hb2⟩
    replace hb2 := below_then hb1 hb2
    clear hb1
    go_wp2_with fail
    go_at_call 9
    refine (validL (la ++ lb) v _ w2 (data_append la lb) hj'.out (by rw [List.length_append]; omega) (tabs_below hT'.out hb2)).mono ?_
    rintro e w3 ⟨rfl, hb3⟩
    replace hb3 := below_then hb2 hb3
    clear hb2
    go_wp2_with fail
    go_at_call 9
    refine (validL lb v _ w3 rfl hv2'.out (by omega) (tabs_below hT'.out hb3)).mono ?_
    rintro e w4 ⟨rfl, hb4⟩
    replace hb4 := below_then hb3 hb4
    clear hb3
    go_wp2_with fail
    go_at_call 11
    refine (lowerL (la ++ lb) _ w4 (data_append la lb) (by rw [List.length_append]; omega)).mono ?_
    rintro e w5 ⟨rfl, hb5⟩
    replace hb5 := below_then hb4 hb5
    clear hb4
    go_wp2_with fail
    go_at_call 11
    refine (lowerL la _ w5 rfl (by omega)).mono ?_
    rintro e w6 ⟨rfl, hb6⟩
    replace hb6 := below_then hb5 hb6
    clear hb5
    go_wp2_with fail
    go_at_call 11
    refine (lowerL lb _ w6 rfl (by omega)).mono ?_
    rintro e w7 ⟨rfl, hb7⟩
    replace hb7 := below_then hb6 hb7
    clear hb6
    go_wp2_with fail
    go_at_call 11
    refine (lowerL la _ w7 rfl (by omega)).mono ?_
    rintro e w8 ⟨rfl, hb8⟩
    replace hb8 := below_then hb7 hb8
    clear hb7
    go_wp2_with fail
    go_at_call 13
    refine (upperL (low la) _ w8 rfl (by rw [low_length]; omega)).mono ?_
    rintro e w9 ⟨rfl, hb9⟩
    replace hb9 := below_then hb8 hb9
    clear hb8
    go_wp2_with fail
    go_at_call 13
    refine (upperL la _ w9 rfl (by omega)).mono ?_
    rintro e w10 ⟨rfl, hb10⟩
    replace hb10 := below_then hb9 hb10
    clear hb9
    go_wp2_with fail
    go_at_call 13
    refine (upperL la _ w10 rfl (by omega)).mono ?_
    rintro e w11 ⟨rfl, hb11⟩
    replace hb11 := below_then hb10 hb11
    clear hb10
    go_wp2_with fail
    go_at_call 11
    refine (lowerL (up la) _ w11 rfl (by rw [up_length]; omega)).mono ?_
    rintro e w12 ⟨rfl, hb12⟩
    replace hb12 := below_then hb11 hb12
    clear hb11
    go_wp2_with fail
    go_at_call 11
    refine (lowerL la _ w12 rfl (by omega)).mono ?_
    rintro e w13 ⟨rfl, hb13⟩
    replace hb13 := below_then hb12 hb13
    clear hb12
    go_wp2_with fail
    go_at_call 13
    refine (upperL la _ w13 rfl (by omega)).mono ?_
    rintro e w14 ⟨rfl, hb14⟩
    replace hb14 := below_then hb13 hb14
    clear hb13
    go_wp2_with fail
    go_at_call 15
    refine (sameL la (up la) _ _ w14 rfl rfl (by omega) (by rw [up_length]; omega)).mono ?_
    rintro e w15 ⟨rfl, hb15⟩
    replace hb15 := below_then hb14 hb15
    clear hb14
    go_wp2_with fail
    go_at_call 11
    refine (lowerL la _ w15 rfl (by omega)).mono ?_
    rintro e w16 ⟨rfl, hb16⟩
    replace hb16 := below_then hb15 hb16
    clear hb15
    go_wp2
    go_ret
    exact ⟨rfl, hb16⟩
  · rw [Bool.not_eq_true] at hv
    have hv' := Lib.hid hv
    clear hv
    go_enter Tryd.func4, Tryd.ntmps4
    go_wp2_with fail
    go_at_call 8
    refine (first_any w hT'.out).mono ?_
    rintro e w1 ⟨rfl, hb1⟩
    go_wp2_with fail
    go_at_call 9
    refine (validL la false _ w1 rfl hv'.out (by omega) (tabs_below hT'.out hb1)).mono ?_
    rintro e w2 ⟨rfl, hb2⟩
    replace hb2 := below_then hb1 hb2
    clear hb1
    go_wp2_with fail
    go_at_call 11
    refine (lowerL (la ++ lb) _ w2 (data_append la lb) (by rw [List.length_append]; omega)).mono ?_
    rintro e w3 ⟨rfl, hb3⟩
    replace hb3 := below_then hb2 hb3
    clear hb2
    go_wp2_with fail
    go_at_call 11
    refine (lowerL la _ w3 rfl (by omega)).mono ?_
    rintro e w4 ⟨rfl, hb4⟩
    replace hb4 := below_then hb3 hb4
    clear hb3
    go_wp2_with fail
    go_at_call 11
    refine (lowerL lb _ w4 rfl (by omega)).mono ?_
    rintro e w5 ⟨rfl, hb5⟩
    replace hb5 := below_then hb4 hb5
    clear hb4
    go_wp2_with fail
    go_at_call 11
    refine (lowerL la _ w5 rfl (by omega)).mono ?_
    rintro e w6 ⟨rfl, hb6⟩
    replace hb6 := below_then hb5 hb6
    clear hb5
    go_wp2_with fail
    go_at_call 13
    refine (upperL (low la) _ w6 rfl (by rw [low_length]; omega)).mono ?_
    rintro e w7 ⟨rfl, hb7⟩
    replace hb7 := below_then hb6 hb7
    clear hb6
    go_wp2_with fail
    go_at_call 13
    refine (upperL la _ w7 rfl (by omega)).mono ?_
    rintro e w8 ⟨rfl, hb8⟩
    replace hb8 := below_then hb7 hb8
    clear hb7
    go_wp2_with fail
    go_at_call 13
    refine (upperL la _ w8 rfl (by omega)).mono ?_
    rintro e w9 ⟨rfl, hb9⟩
    replace hb9 := below_then hb8 hb9
    clear hb8
    go_wp2_with fail
    go_at_call 11
    refine (lowerL (up la) _ w9 rfl (by rw [up_length]; omega)).mono ?_
    rintro e w10 ⟨rfl, hb10⟩
    replace hb10 := below_then hb9 hb10
    clear hb9
    go_wp2_with fail
    go_at_call 11
    refine (lowerL la _ w10 rfl (by omega)).mono ?_
    rintro e w11 ⟨rfl, hb11⟩
    replace hb11 := below_then hb10 hb11
    clear hb10
    go_wp2_with fail
    go_at_call 13
    refine (upperL la _ w11 rfl (by omega)).mono ?_
    rintro e w12 ⟨rfl, hb12⟩
    replace hb12 := below_then hb11 hb12
    clear hb11
    go_wp2_with fail
    go_at_call 15
    refine (sameL la (up la) _ _ w12 rfl rfl (by omega) (by rw [up_length]; omega)).mono ?_
    rintro e w13 ⟨rfl, hb13⟩
    replace hb13 := below_then hb12 hb13
    clear hb12
    go_wp2_with fail
    go_at_call 11
    refine (lowerL la _ w13 rfl (by omega)).mono ?_
    rintro e w14 ⟨rfl, hb14⟩
    replace hb14 := below_then hb13 hb14
    clear hb13
    go_wp2
    go_ret
    exact ⟨rfl, hb14⟩
end Go.Proofs.YtaalmjcanidnpaaDoor.Ch
