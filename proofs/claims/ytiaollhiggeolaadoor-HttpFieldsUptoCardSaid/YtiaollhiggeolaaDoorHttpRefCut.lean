/-
  WALKS OF THE REFERENCE OF LAYER http: Cut, Trim.
-/
import Derived.Test.YtiaollhiggeolaaDoorHttpRef
import Derived.OwnWalk
set_option linter.unusedVariables false
namespace Go.Proofs.YtiaollhiggeolaaDoor.Ht
open Go.Lib Go.RowKit

theorem cutB_none {c : UInt8} : ∀ {a : Row}, c ∉ a → cutB c a = none
  | [], _ => rfl
  | x :: a, h => by
    have : x ≠ c := fun e => h (by simp [e])
    rw [cutB, if_neg this, cutB_none (fun hm => h (by simp [hm]))]; rfl
theorem list_at {s : ByteArray} {k : Nat} (hk : k < s.size) : s.data.toList = s.data.toList.take k ++ (s[k]'hk) :: s.data.toList.drop (k + 1) := by
  have hl : k < s.data.toList.length := by rw [← Lib.size_eq]; exact hk
  refine (List.take_append_drop k _).symm.trans ?_
  rw [List.drop_eq_getElem_cons hl]; rfl
theorem cut_at {s : ByteArray} {k : Nat} {c : UInt8} (hk : k < s.size) (h : c ∉ s.data.toList.take k) (e : s[k]'hk = c) : cutB c s.data.toList = some (s.data.toList.take k, s.data.toList.drop (k + 1)) := by
  have := list_at hk
  rw [e] at this
  exact (congrArg (cutB c) this).trans (cutB_at _ h)
theorem not_next {s : ByteArray} {k : Nat} {c : UInt8} (hk : k < s.size) (h : c ∉ s.data.toList.take k) (e : s[k]'hk ≠ c) : c ∉ s.data.toList.take (k + 1) := by
  have hl : k < s.data.toList.length := by rw [← Lib.size_eq]; exact hk
  rw [List.take_succ_eq_append_getElem hl]
  intro hm
  rcases List.mem_append.1 hm with hm | hm
  · exact h hm
  · rw [List.mem_singleton] at hm
    exact e hm.symm
theorem sv_take (s : ByteArray) (k : Nat) : Value.string (s.extract 0 k) = sv (s.data.toList.take k) := by
  rw [← sv_data (s.extract 0 k), Lib.extract_data]; rfl
theorem sv_drop (s : ByteArray) (k : Nat) : Value.string (s.extract k s.size) = sv (s.data.toList.drop k) := by
  rw [← sv_data (s.extract k s.size), Lib.extract_data, List.take_of_length_le (by rw [List.length_drop, ← Lib.size_eq]; exact Nat.le_refl _)]
def CutR (c : UInt8) (s : ByteArray) : Ending := match cutB c s.data.toList with
  | some p => .returned (.tuple #[sv p.1, sv p.2, .bool true])
  | none => .returned (.tuple #[.string s, .string ⟨#[]⟩, .bool false])
theorem bl_is {c : UInt8} {v : Nat} (h : c.toNat = v) : bl c = decide (v = 32 ∨ v = 9) := by
  unfold bl
  rw [Bool.eq_iff_iff, decide_eq_true_iff, ← (byte_is c v h 32 (by decide)), ← (byte_is c v h 9 (by decide))]
  simp only [Bool.or_eq_true, beq_iff_eq]
  exact Iff.rfl
theorem dw_head {a : ByteArray} (h : 0 < a.size) (hb : bl (a[0]'h) = true) : a.data.toList.dropWhile bl = (a.extract 1 a.size).data.toList.dropWhile bl := by
  have e := list_at h
  have e2 : (a.extract 1 a.size).data.toList = a.data.toList.drop (0 + 1) := by rw [Lib.extract_data, List.take_of_length_le (by rw [List.length_drop, ← Lib.size_eq]; exact Nat.le_refl _)]
  rw [e2]
  refine (congrArg (List.dropWhile bl) e).trans ?_
  simp [hb]
theorem dw_stop {a : ByteArray} (h : 0 < a.size) (hb : bl (a[0]'h) = false) : a.data.toList.dropWhile bl = a.data.toList := by
  have e := list_at h
  refine (congrArg (List.dropWhile bl) e).trans ?_
  refine Eq.trans ?_ e.symm
  simp [hb]
def backs (l : Row) : Row := (l.reverse.dropWhile bl).reverse
theorem list_end {a : ByteArray} (h : a.size - 1 < a.size) : a.data.toList = a.data.toList.take (a.size - 1) ++ [a[a.size - 1]'h] := by
  have e := list_at h
  rw [List.drop_of_length_le (by rw [← Lib.size_eq]; omega)] at e
  exact e
theorem bk_last {a : ByteArray} (h : a.size - 1 < a.size) (hb : bl (a[a.size - 1]'h) = true) : backs a.data.toList = backs (a.extract 0 (a.size - 1)).data.toList := by
  have e2 : (a.extract 0 (a.size - 1)).data.toList = a.data.toList.take (a.size - 1) := by rw [Lib.extract_data]; rfl
  rw [e2]
  refine (congrArg backs (list_end h)).trans ?_
  unfold backs
  simp [hb]
theorem bk_stop {a : ByteArray} (h : a.size - 1 < a.size) (hb : bl (a[a.size - 1]'h) = false) : backs a.data.toList = a.data.toList := by
  refine (congrArg backs (list_end h)).trans ?_
  refine Eq.trans ?_ (list_end h).symm
  unfold backs
  simp [hb]
theorem no_list {a : ByteArray} (h : ¬ 0 < a.size) : a.data.toList = [] := List.eq_nil_of_length_eq_zero (by rw [← Lib.size_eq]; omega)
set_option maxHeartbeats 4000000 in
set_option maxRecDepth 100000 in
theorem refTrim_any (s : ByteArray) (w : World) (hs : s.size ≤ 9223372036854775807) : Calls Tryd.prog 26 #[.string s] w fun e w' => e = .returned (sv (trim s.data.toList)) ∧ w' = w := by
  have ht : trim s.data.toList = backs (s.data.toList.dropWhile bl) := rfl
  rw [ht]
  obtain ⟨X, hX⟩ : ∃ X, s.data.toList.dropWhile bl = X := ⟨_, rfl⟩
  rw [hX]
  obtain ⟨Y, hY⟩ : ∃ Y, backs X = Y := ⟨_, rfl⟩
  rw [hY]
  have hY' := Lib.hid hY
  have hX' := Lib.hid hX
  clear ht hX hY
  go_enter Tryd.func26, Tryd.ntmps26
  go_wp2
  go_loopw [0] (fun s0 wr => ∃ a : ByteArray, s0 = .string a ∧ a.size ≤ s.size ∧ a.data.toList.dropWhile bl = X ∧ wr = w) (fun s0 wr => match s0 with | .string a => a.size | _ => 0)
  case atStart => exact ⟨s, rfl, Nat.le_refl _, hX'.out, rfl⟩
  case round =>
    obtain ⟨a, rfl, ha, hall, rfl⟩ := hrel
    by_cases hz : 0 < a.size
    · obtain ⟨v, hv⟩ : ∃ v, (a[0]'hz).toNat = v := ⟨_, rfl⟩
      by_cases h1 : v = 32 ∨ v = 9
      · have hnx := Lib.hid ((dw_head hz (by rw [bl_is hv, decide_eq_true h1])).symm.trans hall)
        have hsz : (a.extract 1 a.size).size = a.size - 1 := by simp
        clear hall
        rcases h1 with h1 | h1
        · go_wp2
          go_roundw
          case rel => exact ⟨_, rfl, by omega, hnx.out, trivial⟩
          case measure => simp; omega
        · have c5 : ((v : Int) == 32) = false := beq_false_of_ne (by omega)
          go_wp2
          go_roundw
          case rel => exact ⟨_, rfl, by omega, hnx.out, trivial⟩
          case measure => simp; omega
      · have hst : a.data.toList = X := (dw_stop hz (by rw [bl_is hv, decide_eq_false h1])).symm.trans hall
        have hst' := Lib.hid hst
        have c5 : ((v : Int) == 32) = false := beq_false_of_ne (by omega)
        have c6 : ((v : Int) == 9) = false := beq_false_of_ne (by omega)
        clear hall hst
        go_wp2
        go_loopw [0] (fun s0 wr' => ∃ b : ByteArray, s0 = .string b ∧ b.size ≤ s.size ∧ backs b.data.toList = Y ∧ wr' = wr) (fun s0 wr => match s0 with | .string b => b.size | _ => 0)
        case atStart => exact ⟨a, rfl, ha, by rw [hst'.out]; exact hY'.out, rfl⟩
        case round =>
          obtain ⟨b, rfl, hb, hall, rfl⟩ := hrel
          by_cases hz2 : 0 < b.size
          · have hlt : b.size - 1 < b.size := by omega
            obtain ⟨x, hx⟩ : ∃ x, (b[b.size - 1]'hlt).toNat = x := ⟨_, rfl⟩
            by_cases h1 : x = 32 ∨ x = 9
            · have hnx := Lib.hid ((bk_last hlt (by rw [bl_is hx, decide_eq_true h1])).symm.trans hall)
              have hsz : (b.extract 0 (b.size - 1)).size = b.size - 1 := by simp
              clear hall
              rcases h1 with h1 | h1
              · go_wp2
                go_roundw
                case rel => exact ⟨_, rfl, by omega, hnx.out, trivial⟩
                case measure => simp; omega
              · have c5 : ((x : Int) == 32) = false := beq_false_of_ne (by omega)
                go_wp2
                go_roundw
                case rel => exact ⟨_, rfl, by omega, hnx.out, trivial⟩
                case measure => simp; omega
            · have hfin : Value.string b = sv Y := by
                rw [← sv_data b, ← hall, bk_stop hlt (by rw [bl_is hx, decide_eq_false h1])]
              have hfin' := Lib.hid hfin
              have c5 : ((x : Int) == 32) = false := beq_false_of_ne (by omega)
              have c6 : ((x : Int) == 9) = false := beq_false_of_ne (by omega)
              clear hall hfin
              go_wp2
              go_ret
              exact ⟨by rw [← hfin'.out]; rfl, rfl⟩
          · have hfin : Value.string b = sv Y := by
              rw [← sv_data b, ← hall, no_list hz2]
              rfl
            have hfin' := Lib.hid hfin
            clear hall hfin
            go_wp2
            go_ret
            exact ⟨by rw [← hfin'.out]; rfl, rfl⟩
    · have hst : a.data.toList = X := by
        rw [no_list hz] at hall ⊢
        exact hall
      have hst' := Lib.hid hst
      clear hall hst
      go_wp2
      go_loopw [0] (fun s0 wr' => ∃ b : ByteArray, s0 = .string b ∧ b.size ≤ s.size ∧ backs b.data.toList = Y ∧ wr' = wr) (fun s0 wr => match s0 with | .string b => b.size | _ => 0)
      case atStart => exact ⟨a, rfl, ha, by rw [hst'.out]; exact hY'.out, rfl⟩
      case round =>
        obtain ⟨b, rfl, hb, hall, rfl⟩ := hrel
        by_cases hz2 : 0 < b.size
        · have hlt : b.size - 1 < b.size := by omega
          obtain ⟨x, hx⟩ : ∃ x, (b[b.size - 1]'hlt).toNat = x := ⟨_, rfl⟩
          by_cases h1 : x = 32 ∨ x = 9
          · have hnx := Lib.hid ((bk_last hlt (by rw [bl_is hx, decide_eq_true h1])).symm.trans hall)
            have hsz : (b.extract 0 (b.size - 1)).size = b.size - 1 := by simp
            clear hall
            rcases h1 with h1 | h1
            · go_wp2
              go_roundw
              case rel => exact ⟨_, rfl, by omega, hnx.out, trivial⟩
              case measure => simp; omega
            · have c5 : ((x : Int) == 32) = false := beq_false_of_ne (by omega)
              go_wp2
              go_roundw
              case rel => exact ⟨_, rfl, by omega, hnx.out, trivial⟩
              case measure => simp; omega
          · have hfin : Value.string b = sv Y := by
              rw [← sv_data b, ← hall, bk_stop hlt (by rw [bl_is hx, decide_eq_false h1])]
            have hfin' := Lib.hid hfin
            have c5 : ((x : Int) == 32) = false := beq_false_of_ne (by omega)
            have c6 : ((x : Int) == 9) = false := beq_false_of_ne (by omega)
            clear hall hfin
            go_wp2
            go_ret
            exact ⟨by rw [← hfin'.out]; rfl, rfl⟩
        · have hfin : Value.string b = sv Y := by
            rw [← sv_data b, ← hall, no_list hz2]
            rfl
          have hfin' := Lib.hid hfin
          clear hall hfin
          go_wp2
          go_ret
          exact ⟨by rw [← hfin'.out]; rfl, rfl⟩
end Go.Proofs.YtiaollhiggeolaaDoor.Ht
