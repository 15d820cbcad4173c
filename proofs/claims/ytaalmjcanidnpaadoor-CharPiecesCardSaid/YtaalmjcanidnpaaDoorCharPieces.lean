/-
  THE WALK OF THE STATEMENT CharPieces: for every string within the reach and every int.
-/
import Derived.Test.YtaalmjcanidnpaaDoorCharJoins
import Derived.Test.YtaalmjcanidnpaaDoorCharRune
import Derived.Deep.RegionHeld3
set_option linter.unusedVariables false
namespace Go.Proofs.YtaalmjcanidnpaaDoor.Ch
open Go.Lib Go.RowKit

set_option maxHeartbeats 4000000 in
set_option maxRecDepth 100000 in
theorem pieces_walk (s : ByteArray) (at_ : Int) (w : World) (hs : s.data.toList.length ≤ 140737488351232) (ha1 : -9223372036854775808 ≤ at_) (ha2 : at_ ≤ 9223372036854775807) (hT : Tabs w) :
    Calls Tryd.prog 6 #[.string s, .int .i64 at_] w fun e w' => e = .returned (.bool true) ∧ Below w.heap.size w w' := by
  have hT' := Lib.hid hT
  have hsz : s.size ≤ 140737488351232 := by rw [Lib.size_eq]; exact hs
  clear hT hs
  by_cases hv : valid s.data.toList = true
  · obtain ⟨U, hU⟩ : ∃ U : Nat, IntKind.u64.wrap at_ = (U : Int) := ⟨(IntKind.u64.wrap at_).toNat, by rw [IntKind.wrap_u64]; omega⟩
    obtain ⟨K, hK⟩ : ∃ K : Nat, (U : Int) % ((s.size : Int) + 1) = (K : Int) := ⟨((U : Int) % ((s.size : Int) + 1)).toNat, by have := Int.emod_nonneg (U : Int) (show (s.size : Int) + 1 ≠ 0 by omega); omega⟩
    have hKs : K ≤ s.size := by have := Int.emod_lt_of_pos (U : Int) (show (0 : Int) < (s.size : Int) + 1 by omega); omega
    have hcut := valid_cut s.data.toList hv K (by rw [← Lib.size_eq]; exact hKs)
    obtain ⟨t1, ht1⟩ : ∃ t1, s.extract 0 K = t1 := ⟨_, rfl⟩
    obtain ⟨t2, ht2⟩ : ∃ t2, s.extract K s.size = t2 := ⟨_, rfl⟩
    have e1 : t1.data.toList = s.data.toList.take K := by rw [← ht1, Lib.extract_data]; rfl
    have e2 : t2.data.toList = s.data.toList.drop K := by rw [← ht2]; exact Lib.extract_to_end s K
    have e3 : (t1 ++ t2).data.toList = s.data.toList := by simp only [ByteArray.data_append, Array.toList_append, e1, e2, List.take_append_drop]
    have z1 : t1.size = K := by rw [Lib.size_eq, e1, List.length_take, ← Lib.size_eq]; omega
    have z2 : t2.size = s.size - K := by rw [Lib.size_eq, e2, List.length_drop, ← Lib.size_eq]
    obtain ⟨t3, ht3⟩ : ∃ t3, t1 ++ t2 = t3 := ⟨_, rfl⟩
    rw [ht3] at e3
    obtain ⟨B, hB⟩ : ∃ B, between s.data.toList K = B := ⟨_, rfl⟩
    rw [hB] at hcut
    have cV1 : ∀ W, Below w.heap.size w W → Calls Tryd.prog 9 #[.string t1] W fun e w' => e = .returned (.bool B) ∧ Below W.heap.size W w' := fun W hW =>
      validL _ B t1 W e1 hcut.1 (by rw [← e1, ← Lib.size_eq]; omega) (tabs_below hT'.out hW)
    have cV2 : ∀ W, Below w.heap.size w W → Calls Tryd.prog 9 #[.string t2] W fun e w' => e = .returned (.bool B) ∧ Below W.heap.size W w' := fun W hW =>
      validL _ B t2 W e2 hcut.2 (by rw [← e2, ← Lib.size_eq]; omega) (tabs_below hT'.out hW)
    have cV3 : ∀ W, Below w.heap.size w W → Calls Tryd.prog 9 #[.string t3] W fun e w' => e = .returned (.bool true) ∧ Below W.heap.size W w' := fun W hW =>
      validL _ true t3 W e3 hv (by rw [← Lib.size_eq]; omega) (tabs_below hT'.out hW)
    have hv' := Lib.hid hv
    have hB' := Lib.hid hB
    have hzs : ¬ 9223372036854775807 < t1.size + t2.size := by omega
    clear z1 z2
    clear hv hB hcut e1 e2 e3
    have hcase : (K = s.size ∧ B = true) ∨ (∃ h : K < s.size, ((s[K]'h).toNat < 128 ∧ B = true) ∨ (192 ≤ (s[K]'h).toNat ∧ B = true) ∨ (128 ≤ (s[K]'h).toNat ∧ (s[K]'h).toNat < 192 ∧ B = false)) := by
      rw [← hB'.out]
      unfold between
      by_cases h : K < s.size
      · right
        refine ⟨h, ?_⟩
        have hg : (s[K]'h).toNat = (s.data.toList.getD K 0).toNat := by
          have := at_get s K h
          unfold at' at this
          omega
        rw [hg]
        by_cases g1 : (s.data.toList.getD K 0).toNat < 128
        · exact .inl ⟨g1, decide_eq_true (.inr (.inl g1))⟩
        by_cases g2 : 192 ≤ (s.data.toList.getD K 0).toNat
        · exact .inr (.inl ⟨g2, decide_eq_true (.inr (.inr g2))⟩)
        · refine .inr (.inr ⟨by omega, by omega, decide_eq_false ?_⟩)
          rw [← Lib.size_eq]
          omega
      · left
        exact ⟨by omega, decide_eq_true (.inl (by rw [← Lib.size_eq]; omega))⟩
    rcases hcase with ⟨h1, h2⟩ | ⟨hlt, ⟨h1, h2⟩ | ⟨h1, h2⟩ | ⟨h1, h1', h2⟩⟩
    · subst h2
      have dK : ((K : Int) == (s.size : Int)) = true := by simp; omega
      have dK' : s.size ≤ K := by omega
      clear h1
      go_enter Tryd.func6, Tryd.ntmps6
      go_wp2_with fail
      go_at_call 8
      refine (first_any w hT'.out).mono ?_
      rintro e w1 ⟨rfl, hb1⟩
      go_wp2_with fail
      go_at_call 9
      refine (validL s.data.toList true _ w1 rfl hv'.out (by rw [← Lib.size_eq]; omega) (tabs_below hT'.out hb1)).mono ?_
      rintro e w2 ⟨rfl, hb2⟩
      replace hb2 := below_then hb1 hb2
      clear hb1
      go_wp2_with fail
      go_region_held3 (fun w' => Below w.heap.size w w') (first | assumption | exact Below.drew (by assumption) | exact below_then (by assumption) (by assumption))
        (first
          | (go_at_call 9; ((with_reducible refine (cV1 _ (by assumption)).mono ?_); rintro e wx ⟨rfl, hbx⟩))
          | (go_at_call 9; ((with_reducible refine (cV2 _ (by assumption)).mono ?_); rintro e wx ⟨rfl, hbx⟩))
          | (go_at_call 9; ((with_reducible refine (cV3 _ (by assumption)).mono ?_); rintro e wx ⟨rfl, hbx⟩)))
      go_wp2
      go_ret
      exact ⟨rfl, by assumption⟩
    · subst h2
      have dK : ((K : Int) == (s.size : Int)) = false := by simp; omega
      have d1 : decide (((s[K]'hlt).toNat : Int) < 128) = true := decide_eq_true (by omega)
      clear h1
      go_enter Tryd.func6, Tryd.ntmps6
      go_wp2_with fail
      go_at_call 8
      refine (first_any w hT'.out).mono ?_
      rintro e w1 ⟨rfl, hb1⟩
      go_wp2_with fail
      go_at_call 9
      refine (validL s.data.toList true _ w1 rfl hv'.out (by rw [← Lib.size_eq]; omega) (tabs_below hT'.out hb1)).mono ?_
      rintro e w2 ⟨rfl, hb2⟩
      replace hb2 := below_then hb1 hb2
      clear hb1
      go_wp2_with fail
      go_region_held3 (fun w' => Below w.heap.size w w') (first | assumption | exact Below.drew (by assumption) | exact below_then (by assumption) (by assumption))
        (first
          | (go_at_call 9; ((with_reducible refine (cV1 _ (by assumption)).mono ?_); rintro e wx ⟨rfl, hbx⟩))
          | (go_at_call 9; ((with_reducible refine (cV2 _ (by assumption)).mono ?_); rintro e wx ⟨rfl, hbx⟩))
          | (go_at_call 9; ((with_reducible refine (cV3 _ (by assumption)).mono ?_); rintro e wx ⟨rfl, hbx⟩)))
      go_wp2
      go_ret
      exact ⟨rfl, by assumption⟩
    · subst h2
      have dK : ((K : Int) == (s.size : Int)) = false := by simp; omega
      have d1 : decide (((s[K]'hlt).toNat : Int) < 128) = false := decide_eq_false (by omega)
      have d2 : decide (192 ≤ ((s[K]'hlt).toNat : Int)) = true := decide_eq_true (by omega)
      clear h1
      go_enter Tryd.func6, Tryd.ntmps6
      go_wp2_with fail
      go_at_call 8
      refine (first_any w hT'.out).mono ?_
      rintro e w1 ⟨rfl, hb1⟩
      go_wp2_with fail
      go_at_call 9
      refine (validL s.data.toList true _ w1 rfl hv'.out (by rw [← Lib.size_eq]; omega) (tabs_below hT'.out hb1)).mono ?_
      rintro e w2 ⟨rfl, hb2⟩
      replace hb2 := below_then hb1 hb2
      clear hb1
      go_wp2_with fail
      go_region_held3 (fun w' => Below w.heap.size w w') (first | assumption | exact Below.drew (by assumption) | exact below_then (by assumption) (by assumption))
        (first
          | (go_at_call 9; ((with_reducible refine (cV1 _ (by assumption)).mono ?_); rintro e wx ⟨rfl, hbx⟩))
          | (go_at_call 9; ((with_reducible refine (cV2 _ (by assumption)).mono ?_); rintro e wx ⟨rfl, hbx⟩))
          | (go_at_call 9; ((with_reducible refine (cV3 _ (by assumption)).mono ?_); rintro e wx ⟨rfl, hbx⟩)))
      go_wp2
      go_ret
      exact ⟨rfl, by assumption⟩
    · subst h2
      have dK : ((K : Int) == (s.size : Int)) = false := by simp; omega
      have d1 : decide (((s[K]'hlt).toNat : Int) < 128) = false := decide_eq_false (by omega)
      have d2 : decide (192 ≤ ((s[K]'hlt).toNat : Int)) = false := decide_eq_false (by omega)
      clear h1 h1'
      go_enter Tryd.func6, Tryd.ntmps6
      go_wp2_with fail
      go_at_call 8
      refine (first_any w hT'.out).mono ?_
      rintro e w1 ⟨rfl, hb1⟩
      go_wp2_with fail
      go_at_call 9
      refine (validL s.data.toList true _ w1 rfl hv'.out (by rw [← Lib.size_eq]; omega) (tabs_below hT'.out hb1)).mono ?_
      rintro e w2 ⟨rfl, hb2⟩
      replace hb2 := below_then hb1 hb2
      clear hb1
      go_wp2_with fail
      go_region_held3 (fun w' => Below w.heap.size w w') (first | assumption | exact Below.drew (by assumption) | exact below_then (by assumption) (by assumption))
        (first
          | (go_at_call 9; ((with_reducible refine (cV1 _ (by assumption)).mono ?_); rintro e wx ⟨rfl, hbx⟩))
          | (go_at_call 9; ((with_reducible refine (cV2 _ (by assumption)).mono ?_); rintro e wx ⟨rfl, hbx⟩))
          | (go_at_call 9; ((with_reducible refine (cV3 _ (by assumption)).mono ?_); rintro e wx ⟨rfl, hbx⟩)))
      go_wp2
      go_ret
      exact ⟨rfl, by assumption⟩
  · rw [Bool.not_eq_true] at hv
    have hv' := Lib.hid hv
    clear hv
    go_enter Tryd.func6, Tryd.ntmps6
    go_wp2_with fail
    go_at_call 8
    refine (first_any w hT'.out).mono ?_
    rintro e w1 ⟨rfl, hb1⟩
    go_wp2_with fail
    go_at_call 9
    refine (validL s.data.toList false _ w1 rfl hv'.out (by rw [← Lib.size_eq]; omega) (tabs_below hT'.out hb1)).mono ?_
    rintro e w2 ⟨rfl, hb2⟩
    go_wp2
    go_ret
    exact ⟨rfl, below_then hb1 hb2⟩
end Go.Proofs.YtaalmjcanidnpaaDoor.Ch
