/-
  WALKS OF THE REFERENCE's Size AND Good.
-/
import Derived.Test.YtdocajpnlejagaaDoorCharRune
import Derived.Test.YtdocajpnlejagaaDoorFoldFold
set_option linter.unusedVariables false
namespace Go.Proofs.YtdocajpnlejagaaDoor.Fo
open Go.Lib Go.RowKit Bu

set_option maxHeartbeats 2000000 in
set_option maxRecDepth 100000 in
theorem refSize_any (s : ByteArray) (w : World) (hs : s.size ≤ 9223372036854775807) :
    Calls Tryd.prog 12 #[.string s] w fun e w' => e = .returned (.int .i64 (sz s.data.toList : Int)) ∧ w = w' := by
  have cR := fun W => Ch.rune_any s W hs
  unfold sz
  obtain ⟨⟨r, n⟩, hr⟩ : ∃ p, Ch.rune s.data.toList = p := ⟨_, rfl⟩
  rw [hr] at cR ⊢
  clear hr
  unfold Ch.runeE at cR
  by_cases h0 : n = 0
  · subst h0
    rw [if_pos rfl]
    go_enter Tryd.func12, Tryd.ntmps12
    go_wp2_with (go_at_call 17; refine (cR _).mono ?_; rintro e w' ⟨rfl, rfl⟩)
    go_ret
    exact ⟨rfl, rfl⟩
  · rw [if_neg h0]
    have hp : 0 < n := by omega
    clear h0
    go_enter Tryd.func12, Tryd.ntmps12
    go_wp2_with (go_at_call 17; refine (cR _).mono ?_; rintro e w' ⟨rfl, rfl⟩)
    go_ret
    exact ⟨rfl, rfl⟩

theorem goodL_no (l : Row) (h : l = [] ∨ headBl l = true ∨ 13 ∈ l ∨ 10 ∈ l) : goodL l = false := by
  unfold goodL
  rcases h with h | h | h | h
  · subst h; rfl
  · rw [h]; simp
  · have : l.contains 13 = true := by simpa using h
    rw [this]; simp
  · have : l.contains 10 = true := by simpa using h
    rw [this]; simp
theorem goodL_yes (l : Row) (h1 : l ≠ []) (h2 : headBl l = false) (h3 : plain l) : goodL l = true := by
  unfold goodL
  have e1 : l.contains 13 = false := by simpa using h3.1
  have e2 : l.contains 10 = false := by simpa using h3.2
  rw [h2, e1, e2]
  cases l with
  | nil => exact absurd rfl h1
  | cons _ _ => rfl

set_option maxHeartbeats 4000000 in
set_option maxRecDepth 100000 in
theorem refGood_any (s : ByteArray) (w : World) (hs : s.size ≤ 140737488355328) :
    Calls Tryd.prog 10 #[.string s] w fun e w' => e = .returned (.bool (goodL s.data.toList)) ∧ w = w' := by
  obtain ⟨G, hG⟩ : ∃ G, goodL s.data.toList = G := ⟨_, rfl⟩
  rw [hG]
  by_cases h0 : s.size = 0
  · have : s.data.toList = [] := List.eq_nil_of_length_eq_zero (by rw [← Lib.size_eq]; exact h0)
    have hG' : G = false := by rw [← hG, this]; rfl
    subst hG'
    have d0 : ((s.size : Int) == 0) = true := by rw [h0]; rfl
    clear h0 this hG
    go_enter Tryd.func10, Tryd.ntmps10
    go_wp2
    go_ret
    exact ⟨rfl, rfl⟩
  · have d0 : ((s.size : Int) == 0) = false := beq_eq_false_iff_ne.2 (by omega)
    have hp : 0 < s.size := by omega
    have hne : s.data.toList ≠ [] := fun h => h0 (by rw [Lib.size_eq, h]; rfl)
    have hhd := headBl_get s hp
    cases hv : bl (s[0]'hp)
    · have hv2 : ¬ ((s[0]'hp).toNat = 32 ∨ (s[0]'hp).toNat = 9) := of_decide_eq_false hv
      have d32 : (((s[0]'hp).toNat : Int) == 32) = false := beq_eq_false_iff_ne.2 (by omega)
      have d9 : (((s[0]'hp).toNat : Int) == 9) = false := beq_eq_false_iff_ne.2 (by omega)
      have hG' := Lib.hid hG
      have hne' := Lib.hid hne
      have hhd' := Lib.hid (hhd.trans hv)
      clear hv hv2 hhd hG hne h0
      go_enter Tryd.func10, Tryd.ntmps10
      go_wp2
      go_loop [3] (fun s3 => ∃ j : Nat, s3 = .int .i64 (j : Int) ∧ j ≤ s.size ∧ plain (s.data.toList.take j)) (fun s3 => s.size - (RowKit.intOf s3).toNat)
      case atStart => exact ⟨0, rfl, Nat.zero_le _, by unfold plain; simp⟩
      case round =>
        obtain ⟨j, rfl, hj, hpl⟩ := hrel
        have hpl' := Lib.hid hpl
        clear hpl
        by_cases hjl : j < s.size
        · have hxj : s.data.toList[j]? = some (s[j]'hjl) := Lib.data_getElem? s j hjl
          obtain ⟨hjl2, hxj2⟩ := List.getElem?_eq_some_iff.1 hxj
          by_cases hx : (s[j]'hjl).toNat = 13 ∨ (s[j]'hjl).toNat = 10
          · have hm : 13 ∈ s.data.toList ∨ 10 ∈ s.data.toList := by
              rcases hx with h | h
              · left; have : s[j]'hjl = 13 := UInt8.toNat_inj.1 h
                rw [← this, ← hxj2]; exact List.getElem_mem hjl2
              · right; have : s[j]'hjl = 10 := UInt8.toNat_inj.1 h
                rw [← this, ← hxj2]; exact List.getElem_mem hjl2
            have hfin : G = false := by rw [← hG'.out]; exact goodL_no _ (.inr (.inr hm))
            have hfin' := Lib.hid hfin
            have dd : (((s[j]'hjl).toNat : Int) == 13) = true ∨ (((s[j]'hjl).toNat : Int) == 13) = false ∧ (((s[j]'hjl).toNat : Int) == 10) = true := by
              rcases hx with h | h
              · exact .inl (by rw [h]; rfl)
              · exact .inr ⟨by rw [h]; rfl, by rw [h]; rfl⟩
            clear hfin hm hx hxj hxj2
            rcases dd with d1 | ⟨d1, d2⟩
            all_goals
              go_wp2
              go_ret
              exact ⟨by rw [hfin'.out]; rfl, rfl⟩
          · have d1 : (((s[j]'hjl).toNat : Int) == 13) = false := beq_eq_false_iff_ne.2 (by omega)
            have d2 : (((s[j]'hjl).toNat : Int) == 10) = false := beq_eq_false_iff_ne.2 (by omega)
            have hn : plain (s.data.toList.take (j + 1)) := by
              rw [List.take_succ_eq_append_getElem hjl2, hxj2]
              refine ⟨fun hm => ?_, fun hm => ?_⟩
              · rcases List.mem_append.1 hm with hm | hm
                · exact hpl'.out.1 hm
                · exact hx (.inl (by rw [← List.mem_singleton.1 hm]; rfl))
              · rcases List.mem_append.1 hm with hm | hm
                · exact hpl'.out.2 hm
                · exact hx (.inr (by rw [← List.mem_singleton.1 hm]; rfl))
            have hn' := Lib.hid hn
            clear hn hx hxj hxj2
            go_wp2
            go_round
            case rel => exact ⟨j + 1, by go_num, by omega, hn'.out⟩
            case measure => simp [RowKit.intOf]; omega
        · have hfin : G = true := by
            have h := hpl'.out
            rw [List.take_of_length_le (by rw [← Lib.size_eq]; omega)] at h
            rw [← hG'.out]
            exact goodL_yes _ hne'.out hhd'.out h
          have hfin' := Lib.hid hfin
          clear hfin
          go_wp2
          go_ret
          exact ⟨by rw [hfin'.out]; rfl, rfl⟩
    · have hv2 : (s[0]'hp).toNat = 32 ∨ (s[0]'hp).toNat = 9 := of_decide_eq_true hv
      have hG' : G = false := by rw [← hG]; exact goodL_no _ (.inr (.inl (hhd.trans hv)))
      subst hG'
      have dd : (((s[0]'hp).toNat : Int) == 32) = true ∨ (((s[0]'hp).toNat : Int) == 32) = false ∧ (((s[0]'hp).toNat : Int) == 9) = true := by
        rcases hv2 with h | h
        · exact .inl (by rw [h]; rfl)
        · exact .inr ⟨by rw [h]; rfl, by rw [h]; rfl⟩
      clear hG hv hv2 hhd hne h0
      rcases dd with d32 | ⟨d32, d9⟩
      all_goals
        go_enter Tryd.func10, Tryd.ntmps10
        go_wp2
        go_ret
        exact ⟨rfl, rfl⟩
end Go.Proofs.YtdocajpnlejagaaDoor.Fo
