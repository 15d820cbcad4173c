/-
  THE WALK OF THE REFERENCE's Meant.
-/
import Derived.Test.YthkcjfoihieooaaDoorLineCut
import Derived.Test.YthkcjfoihieooaaDoorLineWrite
set_option linter.unusedVariables false
namespace Go.Proofs.YthkcjfoihieooaaDoor.Li
open Go.Lib Go.RowKit

theorem mean_two (x y : UInt8) (l : Row) (h : escL (x :: y :: l) = none) : mean (x :: y :: l) = x :: mean (y :: l) := mean_no h
theorem mean_end : mean [94] = [94] ++ mean [] := rfl
theorem v110 (x : UInt8) (h : x ≠ 110) : ((x.toNat : Int) == 110) = false := Ch.byte_all (P := fun x => x ≠ 110 → ((x.toNat : Int) == 110) = false) (by decide +kernel) x h
theorem w110 (x : UInt8) (h : x = 110) : ((x.toNat : Int) == 110) = true := by subst h; rfl
theorem v39 (x : UInt8) (h : x ≠ 39) : ((x.toNat : Int) == 39) = false := Ch.byte_all (P := fun x => x ≠ 39 → ((x.toNat : Int) == 39) = false) (by decide +kernel) x h
theorem w39 (x : UInt8) (h : x = 39) : ((x.toNat : Int) == 39) = true := by subst h; rfl
/-- as far as Meant has come -/
def MeanAt (M : Row) (s acc : ByteArray) (k : Nat) : Prop := M = acc.data.toList ++ mean (s.data.toList.drop k)
theorem MeanAt.len {M : Row} {s acc : ByteArray} {k : Nat} (h : MeanAt M s acc k) : acc.size ≤ M.length := by
  unfold MeanAt at h
  rw [h, List.length_append, ← Lib.size_eq]; omega
theorem MeanAt.step {M : Row} {s acc z : ByteArray} {k k' : Nat} {c : Row} (h : MeanAt M s acc k) (hm : mean (s.data.toList.drop k) = c ++ mean (s.data.toList.drop k')) (hz : z.data.toList = acc.data.toList ++ c) : MeanAt M s z k' := by
  unfold MeanAt at h ⊢
  rw [h, hm, hz, List.append_assoc]
theorem one_data (s : ByteArray) (k : Nat) (h : k < s.size) : (s.extract k (k + 1)).data.toList = [s[k]'h] := by
  rw [Lib.extract_data, show k + 1 - k = 1 by omega, drop_head s k h]; rfl

set_option maxHeartbeats 8000000 in
set_option maxRecDepth 100000 in
theorem refMeant_any (s : ByteArray) (w : World) (hs : s.size ≤ 4611686018427387904) :
    Calls Tryd.prog 48 #[.string s] w fun e w' => e = .returned (.string ⟨(mean s.data.toList).toArray⟩) ∧ w = w' := by
  have hML := mean_len s.data.toList
  rw [← Lib.size_eq] at hML
  obtain ⟨M, hM⟩ : ∃ M, mean s.data.toList = M := ⟨_, rfl⟩
  rw [hM] at hML ⊢
  have h0 : MeanAt M s ⟨#[]⟩ 0 := by unfold MeanAt; rw [← hM]; rfl
  clear hM
  go_enter Tryd.func48, Tryd.ntmps48
  go_wp2
  go_loop [3, 4] (fun s3 s4 => ∃ (k : Nat) (acc : ByteArray), s3 = .string acc ∧ s4 = .int .i64 (k : Int) ∧ k ≤ s.size ∧ MeanAt M s acc k) (fun s3 s4 => s.size - (RowKit.intOf s4).toNat)
  case atStart => exact ⟨0, _, rfl, rfl, Nat.zero_le _, h0⟩
  case round =>
    obtain ⟨k, acc, rfl, rfl, hk, hat⟩ := hrel
    have hal := hat.len
    by_cases hlt : k < s.size
    · obtain ⟨A, hA⟩ : ∃ A, k + 1 = A := ⟨_, rfl⟩
      have hdh := drop_head s k hlt
      rw [hA] at hdh
      have hod := one_data s k hlt
      rw [hA] at hod
      have hbare : mean (s.data.toList.drop k) = [s[k]'hlt] ++ mean (s.data.toList.drop A) → ∀ z : ByteArray, acc ++ s.extract k A = z → MeanAt M s z A := fun h z hz => hat.step h (by rw [← hz, ByteArray.data_append, Array.toList_append, hod])
      obtain ⟨b1, hb1⟩ : ∃ b1, s.extract k A = b1 := ⟨_, rfl⟩
      rw [hb1] at hbare hod
      have hb1s : b1.size = 1 := by rw [Lib.size_eq, hod]; rfl
      obtain ⟨z1, hz1⟩ : ∃ z, acc ++ b1 = z := ⟨_, rfl⟩
      have hn1 : ¬ 9223372036854775807 < acc.size + b1.size := by omega
      have hn2 : ¬ 9223372036854775807 < acc.size + 1 := by omega
      have hAI : (k : Int) + 1 = (A : Int) := by omega
      have j1 : (k : Int) ≤ (A : Int) := by omega
      have j2 : (A : Int) ≤ (s.size : Int) := by omega
      have j3 : (0 : Int) ≤ (k : Int) := by omega
      have j4 : ¬ (A : Int) < (k : Int) := by omega
      have j5 : ¬ (s.size : Int) < (A : Int) := by omega
      have j6 : A ≤ s.size := by omega
      have j7 : k < A := by omega
      have hbare' := Lib.hid hbare
      have hdh' := Lib.hid hdh
      clear hbare hdh hod hb1s
      have hA' := Lib.hid hA
      clear hA
      by_cases c1 : s[k]'hlt = 94
      · have d1 := w94 _ c1
        by_cases hlt2 : A < s.size
        · have hdh2 := drop_head s A hlt2
          have htwo : s.data.toList.drop k = 94 :: s[A]'hlt2 :: s.data.toList.drop (A + 1) := by rw [hdh'.out, hdh2, c1]
          have hesc : ∀ (c : UInt8) (z : ByteArray), escL (s.data.toList.drop k) = some c → z.data.toList = acc.data.toList ++ [c] → MeanAt M s z (A + 1) := fun c z h hz => hat.step (by
            have := (mean_yes h).1
            rw [this, List.drop_drop, show k + 2 = A + 1 by have := hA'.out; omega]; rfl) hz
          have hnone : escL (s.data.toList.drop k) = none → MeanAt M s z1 A := fun h => hbare'.out (by
            rw [hdh'.out] at h ⊢
            rw [mean_no h]; rfl) _ hz1
          rw [htwo] at hesc hnone
          have hesc' := Lib.hid hesc
          have hnone' := Lib.hid hnone
          clear hdh2 htwo hesc hnone hat c1
          by_cases e1 : s[A]'hlt2 = 110
          · have f1 := w110 _ e1
            obtain ⟨z, hz⟩ : ∃ z, acc ++ (⟨#[10]⟩ : ByteArray) = z := ⟨_, rfl⟩
            have hr := Lib.hid (hesc'.out 10 z (by rw [e1]; rfl) (by rw [← hz, ByteArray.data_append, Array.toList_append]))
            clear e1 hz1
            go_wp2
            go_round
            case rel => exact ⟨A + 1, z, rfl, by go_num, by omega, hr.out⟩
            case measure => simp [RowKit.intOf]; omega
          · have f1 := v110 _ e1
            by_cases e2 : s[A]'hlt2 = 94
            · have f2 := w94 _ e2
              obtain ⟨z, hz⟩ : ∃ z, acc ++ (⟨#[94]⟩ : ByteArray) = z := ⟨_, rfl⟩
              have hr := Lib.hid (hesc'.out 94 z (by rw [e2]; rfl) (by rw [← hz, ByteArray.data_append, Array.toList_append]))
              clear e1 e2 hz1
              go_wp2
              go_round
              case rel => exact ⟨A + 1, z, rfl, by go_num, by omega, hr.out⟩
              case measure => simp [RowKit.intOf]; omega
            · have f2 := v94 _ e2
              by_cases e3 : s[A]'hlt2 = 39
              · have f3 := w39 _ e3
                obtain ⟨z, hz⟩ : ∃ z, acc ++ (⟨#[34]⟩ : ByteArray) = z := ⟨_, rfl⟩
                have hr := Lib.hid (hesc'.out 34 z (by rw [e3]; rfl) (by rw [← hz, ByteArray.data_append, Array.toList_append]))
                clear e1 e2 e3 hz1
                go_wp2
                go_round
                case rel => exact ⟨A + 1, z, rfl, by go_num, by omega, hr.out⟩
                case measure => simp [RowKit.intOf]; omega
              · have f3 := v39 _ e3
                have hr := Lib.hid (hnone'.out (by
                  unfold escL
                  have g1 : ¬ Lib.hasPrefix (94 :: s[A]'hlt2 :: s.data.toList.drop (A + 1)) [94, 110] = true := fun h => by
                    obtain ⟨r, hr⟩ := (pre_two _ _ _).1 h
                    simp at hr; exact e1 hr.1
                  have g2 : ¬ Lib.hasPrefix (94 :: s[A]'hlt2 :: s.data.toList.drop (A + 1)) [94, 94] = true := fun h => by
                    obtain ⟨r, hr⟩ := (pre_two _ _ _).1 h
                    simp at hr; exact e2 hr.1
                  have g3 : ¬ Lib.hasPrefix (94 :: s[A]'hlt2 :: s.data.toList.drop (A + 1)) [94, 39] = true := fun h => by
                    obtain ⟨r, hr⟩ := (pre_two _ _ _).1 h
                    simp at hr; exact e3 hr.1
                  rw [if_neg g1, if_neg g2, if_neg g3]))
                clear e1 e2 e3
                go_wp2
                go_round
                case rel => exact ⟨A, z1, rfl, rfl, by omega, hr.out⟩
                case measure => simp [RowKit.intOf]; omega
        · have hr := Lib.hid (hbare'.out (by
            have e : s.data.toList.drop A = [] := List.drop_eq_nil_of_le (by rw [← Lib.size_eq]; omega)
            rw [hdh'.out, e, c1]; rfl) _ hz1)
          clear hat c1
          go_wp2
          go_round
          case rel => exact ⟨A, z1, rfl, rfl, by omega, hr.out⟩
          case measure => simp [RowKit.intOf]; omega
      · have d1 := v94 _ c1
        have hr := Lib.hid (hbare'.out (by rw [hdh'.out, mean_bare _ _ c1]; rfl) _ hz1)
        clear hat c1
        go_wp2
        go_round
        case rel => exact ⟨A, z1, rfl, rfl, by omega, hr.out⟩
        case measure => simp [RowKit.intOf]; omega
    · have hf : acc = ⟨M.toArray⟩ := by
        unfold MeanAt at hat
        rw [List.drop_eq_nil_of_le (by rw [← Lib.size_eq]; omega)] at hat
        rw [hat, show mean [] = [] from rfl, List.append_nil, Lib.mk_data]
      have hf' := Lib.hid hf
      clear hf hat
      go_wp2
      go_ret
      exact ⟨by rw [← hf'.out]; rfl, rfl⟩
end Go.Proofs.YthkcjfoihieooaaDoor.Li
