/-
  WALKS OF THE REFERENCE's has AND Meant.
-/
import Derived.Test.YthkcjfoihieooaaDoorLineName
set_option linter.unusedVariables false
namespace Go.Proofs.YthkcjfoihieooaaDoor.Li
open Go.Lib Go.RowKit

def hasB (s t : Row) : Bool := s.any fun b => t.contains b
theorem hasB_no {s t : Row} (h : ∀ x ∈ s, t.contains x = false) : hasB s t = false := by
  unfold hasB
  rw [List.any_eq_false]
  intro x hx
  rw [h x hx]; decide
theorem hasB_yes {s t : Row} {i : Nat} {x : UInt8} (h : s[i]? = some x) (hx : t.contains x = true) : hasB s t = true := by
  unfold hasB
  rw [List.any_eq_true]
  exact ⟨x, List.mem_of_getElem? h, hx⟩
theorem miss_all {t : Row} {x : UInt8} (h : ∀ y ∈ t, y ≠ x) : t.contains x = false := by
  rw [Bool.eq_false_iff]
  intro hc
  exact h x (by simpa using hc) rfl
theorem byte_eq (x y : UInt8) (h : x = y) : ((x.toNat : Int) == (y.toNat : Int)) = true := by rw [h]; simp
theorem byte_ne (x y : UInt8) (h : x ≠ y) : ((x.toNat : Int) == (y.toNat : Int)) = false := beq_eq_false_iff_ne.2 (fun e => h (UInt8.toNat_inj.1 (by omega)))
theorem drewN_twice (w : World) (m n : Nat) : ∃ k, (w.drewN m).drewN n = w.drewN k := ⟨m + n, World.drewN_drewN w m n⟩

set_option maxHeartbeats 4000000 in
set_option maxRecDepth 100000 in
theorem refHas_any (s t : ByteArray) (w : World) (hs : s.size ≤ 9223372036854775807) (ht : t.size ≤ 9223372036854775807) :
    Calls Tryd.prog 26 #[.string s, .string t] w fun e w' => e = .returned (.bool (hasB s.data.toList t.data.toList)) ∧ ∃ m, w' = w.drewN m := by
  have hno : (∀ x ∈ s.data.toList, t.data.toList.contains x = false) → hasB s.data.toList t.data.toList = false := hasB_no
  have hyes : ∀ (i : Nat) (x : UInt8), s.data.toList[i]? = some x → t.data.toList.contains x = true → hasB s.data.toList t.data.toList = true := fun i x => hasB_yes
  generalize hasB s.data.toList t.data.toList = R at hno hyes ⊢
  have hno' := Lib.hid hno
  have hyes' := Lib.hid hyes
  clear hno hyes
  go_enter Tryd.func26, Tryd.ntmps26
  go_wp2
  go_loopw [5] (fun s5 wr => ∃ (i m : Nat), s5 = .int .i64 (i : Int) ∧ i ≤ s.size ∧ wr = w.drewN m ∧ ∀ x ∈ s.data.toList.take i, t.data.toList.contains x = false) (fun s5 wr => s.size - (RowKit.intOf s5).toNat)
  case atStart => exact ⟨0, 0, rfl, Nat.zero_le _, rfl, fun x hx => by simp at hx⟩
  case round =>
    obtain ⟨i, m, rfl, hi, rfl, hall⟩ := hrel
    have hall' := Lib.hid hall
    clear hall
    by_cases hlt : i < s.size
    · have hg := Lib.data_getElem? s i hlt
      have hg' := Lib.hid hg
      clear hg
      go_wp2
      go_loopw [6] (fun s6 wr => ∃ (j m : Nat), s6 = .int .i64 (j : Int) ∧ j ≤ t.size ∧ wr = w.drewN m ∧ ∀ y ∈ t.data.toList.take j, y ≠ s[i]'hlt) (fun s6 wr => t.size - (RowKit.intOf s6).toNat)
      case atStart => exact ⟨0, m, rfl, Nat.zero_le _, rfl, fun x hx => by simp at hx⟩
      case round =>
        obtain ⟨j, m2, rfl, hj, rfl, hne⟩ := hrel
        have hne' := Lib.hid hne
        clear hne
        by_cases hlt2 : j < t.size
        · have hg2 := Lib.data_getElem? t j hlt2
          by_cases hx : s[i]'hlt = t[j]'hlt2
          · have hR := Lib.hid (hyes'.out i _ hg'.out (by rw [hx]; simpa using List.mem_of_getElem? hg2))
            have d1 := byte_eq _ _ hx
            clear hx hg2
            go_wp2
            go_quiet (fail)
            go_wp2
            go_ret
            exact ⟨ret_bool hR.out.symm, by first | exact ⟨_, rfl⟩ | exact drewN_twice _ _ _⟩
          · have d1 := byte_ne _ _ hx
            have hnx : ∀ y ∈ t.data.toList.take (j + 1), y ≠ s[i]'hlt := by
              obtain ⟨hl, hv⟩ := List.getElem?_eq_some_iff.1 hg2
              intro y hy
              rw [List.take_succ_eq_append_getElem hl, List.mem_append, List.mem_singleton, hv] at hy
              rcases hy with hy | rfl
              · exact hne'.out y hy
              · exact fun e => hx e.symm
            have hnx' := Lib.hid hnx
            clear hx hg2 hnx
            go_wp2
            go_quiet (fail)
            go_wp2
            first
              | exact ⟨⟨j + 1, _, by go_num, by omega, rfl, hnx'.out⟩, by simp [RowKit.intOf]; omega⟩
              | (go_roundw
                 case rel => first | exact ⟨j + 1, _, by go_num, by omega, rfl, hnx'.out⟩ | (obtain ⟨k9, hk9⟩ := drewN_twice w m2 nq; exact ⟨j + 1, k9, by go_num, by omega, hk9, hnx'.out⟩)
                 case measure => simp [RowKit.intOf]; omega)
        · have hmiss : t.data.toList.contains (s[i]'hlt) = false := miss_all (by
            have h := hne'.out
            rw [List.take_of_length_le (by rw [← Lib.size_eq]; omega)] at h
            exact h)
          have hnx : ∀ x ∈ s.data.toList.take (i + 1), t.data.toList.contains x = false := by
            obtain ⟨hl, hv⟩ := List.getElem?_eq_some_iff.1 hg'.out
            intro y hy
            rw [List.take_succ_eq_append_getElem hl, List.mem_append, List.mem_singleton, hv] at hy
            rcases hy with hy | rfl
            · exact hall'.out y hy
            · exact hmiss
          have hnx' := Lib.hid hnx
          clear hmiss hnx
          go_wp2
          go_roundw
          case rel => exact ⟨i + 1, m2, by go_num, by omega, rfl, hnx'.out⟩
          case measure => simp [RowKit.intOf]; omega
    · have hR := Lib.hid (hno'.out (by
        have h := hall'.out
        rw [List.take_of_length_le (by rw [← Lib.size_eq]; omega)] at h
        exact h))
      go_wp2
      go_ret
      exact ⟨ret_bool hR.out.symm, ⟨_, rfl⟩⟩
end Go.Proofs.YthkcjfoihieooaaDoor.Li
