/-
  THE WALK OF value.cut.
-/
import Derived.Test.YtjdockjkioomiaaValueText
set_option linter.unusedVariables false
namespace Go.Proofs.Ytjdockjkioomiaa.Va
open Go.Lib Go.RowKit Bu

def CutMP (m : UInt8) (t : Row) (e : Ending) : Prop :=
  (cutM m t = none ∧ ∃ a : ByteArray, a.data.toList = t ∧ e = .returned (.tuple #[.string a, .string ⟨#[]⟩, .bool false])) ∨
  ∃ a r : ByteArray, cutM m t = some (a.data.toList, r.data.toList) ∧ e = .returned (.tuple #[.string a, .string r, .bool true])
theorem drop_head (s : ByteArray) (k : Nat) (h : k < s.size) : s.data.toList.drop k = s[k]'h :: s.data.toList.drop (k + 1) := by
  rw [List.drop_eq_getElem_cons (by rw [← Lib.size_eq]; exact h)]
  congr 1
theorem take_next (s : ByteArray) (k : Nat) (h : k < s.size) : s.data.toList.take (k + 1) = s.data.toList.take k ++ [s[k]'h] := by
  rw [List.take_succ_eq_append_getElem (by rw [← Lib.size_eq]; exact h)]
  congr 1
theorem cutM_two (m : UInt8) (r : Row) : cutM m (92 :: r) = (cutM m (r.drop 1)).map fun p => (92 :: r.take 1 ++ p.1, p.2) := by
  cases r with
  | nil => rw [cutM_end, List.drop_nil, cutM_nil]; rfl
  | cons c u => rw [cutM_esc]; rfl

set_option maxHeartbeats 4000000 in
set_option maxRecDepth 100000 in
theorem cut_any (m : UInt8) (s : ByteArray) (w : World) (h92 : m ≠ 92) (hs : s.size ≤ 140737488355328) :
    Calls Try.prog 35 #[.string s, .int .u8 (m.toNat : Int)] w fun e w' => CutMP m s.data.toList e ∧ Below w.heap.size w w' := by
  have hstep2 : ∀ (k : Nat) (h : k < s.size), s[k]'h = 92 → cutM m s.data.toList = ((cutM m (s.data.toList.drop k)).map fun p => (s.data.toList.take k ++ p.1, p.2)) → cutM m s.data.toList = ((cutM m (s.data.toList.drop (k + 2))).map fun p => (s.data.toList.take (k + 2) ++ p.1, p.2)) := fun k h hc hR => by
    rw [hR, drop_head s k h, hc, cutM_two, List.drop_drop, Option.map_map]
    congr 1
    funext p
    have e : s.data.toList.take (k + 2) = s.data.toList.take k ++ (92 :: (s.data.toList.drop (k + 1)).take 1) := by
      rw [← List.take_append_drop k (s.data.toList.take (k + 2)), List.take_take, Nat.min_eq_left (by omega), List.drop_take]
      congr 1
      rw [show k + 2 - k = 2 by omega, drop_head s k h, hc]
      rfl
    simp [e]
  have hstep1 : ∀ (k : Nat) (h : k < s.size), s[k]'h ≠ 92 → s[k]'h ≠ m → cutM m s.data.toList = ((cutM m (s.data.toList.drop k)).map fun p => (s.data.toList.take k ++ p.1, p.2)) → cutM m s.data.toList = ((cutM m (s.data.toList.drop (k + 1))).map fun p => (s.data.toList.take (k + 1) ++ p.1, p.2)) := fun k h hc hm hR => by
    rw [hR, drop_head s k h, cutM_own m _ _ hc hm, Option.map_map, take_next s k h]
    congr 1
    funext p
    simp
  have hstep0 : ∀ (k : Nat) (h : k < s.size), s[k]'h = m → cutM m s.data.toList = ((cutM m (s.data.toList.drop k)).map fun p => (s.data.toList.take k ++ p.1, p.2)) → CutMP m s.data.toList (.returned (.tuple #[.string (s.extract 0 k), .string (s.extract (k + 1) s.size), .bool true])) := fun k h hm hR => .inr ⟨_, _, by
    rw [hR, drop_head s k h, hm, cutM_mark m _ h92, Lib.extract_to_end s (k + 1), Lib.extract_data]
    simp, rfl⟩
  have hend : ∀ (k : Nat), ¬ k < s.size → cutM m s.data.toList = ((cutM m (s.data.toList.drop k)).map fun p => (s.data.toList.take k ++ p.1, p.2)) → CutMP m s.data.toList (.returned (.tuple #[.string s, .string ⟨#[]⟩, .bool false])) := fun k h hR => .inl ⟨by
    rw [hR, List.drop_eq_nil_of_le (by rw [← Lib.size_eq]; omega), cutM_nil]; rfl, s, rfl, rfl⟩
  have hs2 := Lib.hid hstep2
  have hs1 := Lib.hid hstep1
  have hs0 := Lib.hid hstep0
  have hse := Lib.hid hend
  clear hstep2 hstep1 hstep0 hend
  go_enter Try.func35, Try.ntmps35
  go_wp2
  go_loopw [7] (fun s7 wr => ∃ k : Nat, s7 = .int .i64 (k : Int) ∧ k ≤ s.size + 1 ∧ Below w.heap.size w wr ∧ cutM m s.data.toList = ((cutM m (s.data.toList.drop k)).map fun p => (s.data.toList.take k ++ p.1, p.2))) (fun s7 wr => s.size + 1 - (RowKit.intOf s7).toNat)
  case atStart => exact ⟨0, rfl, by omega, Below.refl _ _, by simp⟩
  case round =>
    obtain ⟨k, rfl, hk, hbw, hR⟩ := hrel
    by_cases hlt : k < s.size
    · by_cases c1 : s[k]'hlt = 92
      · have d1 : ((((s[k]'hlt).toNat : Nat) : Int) == 92) = true := ty (m := 92) rfl c1
        have hn := Lib.hid (hs2.out k hlt c1 hR)
        clear c1 hR
        go_wp2
        go_roundw
        case rel => exact ⟨k + 2, by go_num, by omega, hbw, hn.out⟩
        case measure => simp [RowKit.intOf]; omega
      · have d1 : ((((s[k]'hlt).toNat : Nat) : Int) == 92) = false := tn (m := 92) rfl c1
        by_cases c2 : s[k]'hlt = m
        · have d2 : ((((s[k]'hlt).toNat : Nat) : Int) == ((m.toNat : Nat) : Int)) = true := ty rfl c2
          have hn := Lib.hid (hs0.out k hlt c2 hR)
          have hw : IntKind.i64.wrap ((k : Int) + 1) = (k : Int) + 1 := IntWalk.i64_in _ (by omega)
          clear c1 c2 hR
          go_wp2
          go_quiet (fail)
          go_wp2
          go_ret3
          exact ⟨hn.out, below_drewN _ hbw⟩
        · have d2 : ((((s[k]'hlt).toNat : Nat) : Int) == ((m.toNat : Nat) : Int)) = false := tn rfl c2
          have hn := Lib.hid (hs1.out k hlt c1 c2 hR)
          clear c1 c2 hR
          go_wp2
          go_roundw
          case rel => exact ⟨k + 1, by go_num, by omega, hbw, hn.out⟩
          case measure => simp [RowKit.intOf]; omega
    · have hf := Lib.hid (hse.out k hlt hR)
      clear hR
      go_wp2
      go_ret3
      exact ⟨hf.out, hbw⟩
end Go.Proofs.Ytjdockjkioomiaa.Va
