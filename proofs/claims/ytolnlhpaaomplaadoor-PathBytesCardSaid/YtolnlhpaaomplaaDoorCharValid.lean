/-
  THE WALKS OF TEXTS: char.control, char.Valid (utf8.ValidString by the shelf's contract), the reference's Rune and Valid.
-/
import Derived.Test.YtolnlhpaaomplaaDoorShelf
import Derived.Test.YtolnlhpaaomplaaDoorCharPlain
import Derived.Lib.Hide
import Derived.WalkMore
import Derived.LoopTactic
import Derived.Laws.IdiomStrings
import Derived.Laws.MakeOwn
set_option linter.unusedVariables false
namespace Go.Proofs.YtolnlhpaaomplaaDoor.Ch
open Go.Lib Go.RowKit Go.Shelf

def Tabs (w : World) : Prop := Lib.Utf8Tabs (Tryd.laysValid_ren.g 3) (Tryd.laysValid_ren.g 4) w
theorem tabs_below {w w' : World} (h : Tabs w) (hb : Below w.heap.size w w') : Tabs w' := Utf8Tabs_below h hb

set_option maxHeartbeats 1000000 in
set_option maxRecDepth 100000 in
theorem control_any (x : UInt8) (w : World) : Calls Tryd.prog 34 #[.int .u8 (x.toNat : Int)] w fun e w' => e = .returned (.bool (ctl x)) ∧ w = w' := by
  have hx := x.toNat_lt
  unfold ctl
  generalize x.toNat = v at hx ⊢
  by_cases c1 : v = 9
  · subst c1
    go_enter Tryd.func34, Tryd.ntmps34
    go_wp2
    go_ret
    exact ⟨rfl, rfl⟩
  by_cases c2 : v = 10
  · subst c2
    go_enter Tryd.func34, Tryd.ntmps34
    go_wp2
    go_ret
    exact ⟨rfl, rfl⟩
  by_cases c3 : v = 13
  · subst c3
    go_enter Tryd.func34, Tryd.ntmps34
    go_wp2
    go_ret
    exact ⟨rfl, rfl⟩
  by_cases c4 : v = 127
  · subst c4
    go_enter Tryd.func34, Tryd.ntmps34
    go_wp2
    go_ret
    exact ⟨rfl, rfl⟩
  rw [if_neg (by omega), if_neg c4]
  by_cases c5 : v < 32
  · have d1 : ((v : Int) == 9) = false := by simp; omega
    have d2 : ((v : Int) == 10) = false := by simp; omega
    have d3 : ((v : Int) == 13) = false := by simp; omega
    have d4 : ((v : Int) == 127) = false := by simp; omega
    have d5 : decide ((v : Int) < 32) = true := by simp; omega
    rw [decide_eq_true c5]
    go_enter Tryd.func34, Tryd.ntmps34
    go_wp2
    go_ret
    exact ⟨rfl, rfl⟩
  · have d1 : ((v : Int) == 9) = false := by simp; omega
    have d2 : ((v : Int) == 10) = false := by simp; omega
    have d3 : ((v : Int) == 13) = false := by simp; omega
    have d4 : ((v : Int) == 127) = false := by simp; omega
    have d5 : decide ((v : Int) < 32) = false := by simp; omega
    rw [decide_eq_false c5]
    go_enter Tryd.func34, Tryd.ntmps34
    go_wp2
    go_ret
    exact ⟨rfl, rfl⟩

theorem clean_take (l : List UInt8) (k : Nat) (hk : k < l.length) (h : clean (l.take k) = true) (hc : ctl l[k] = false) : clean (l.take (k + 1)) = true := by
  rw [List.take_succ_eq_append_getElem hk, clean_append, h]
  simp [clean, hc]
theorem clean_not (l : List UInt8) (k : Nat) (hk : k < l.length) (hc : ctl l[k] = true) : clean l = false := by
  unfold clean
  rw [Bool.eq_false_iff]
  intro h
  rw [List.all_eq_true] at h
  have := h _ (List.getElem_mem hk)
  rw [hc] at this
  exact absurd this (by decide)

set_option maxHeartbeats 1000000 in
set_option maxRecDepth 100000 in
theorem valid_any (s : ByteArray) (w : World) (hs : s.size ≤ 9223372036854775807) (hT : Tabs w) :
    Calls Tryd.prog 24 #[.string s] w fun e w' => e = .returned (.bool (valid s.data.toList)) ∧ Below w.heap.size w w' := by
  have cV : Calls Tryd.prog 33 #[.string s] w _ := Any.utf8_ValidString Tryd.laysValid s w hs hT
  unfold valid
  obtain ⟨V, hV⟩ : ∃ V, validD s.data.toList = V := ⟨_, rfl⟩
  rw [hV] at cV ⊢
  clear hV hT
  cases V
  · go_enter Tryd.func24, Tryd.ntmps24
    go_wp2_with (go_at_call 33; refine cV.mono ?_; rintro e w' ⟨rfl, hb⟩)
    go_ret
    exact ⟨rfl, hb⟩
  · rw [Bool.true_and]
    go_enter Tryd.func24, Tryd.ntmps24
    go_wp2_with (go_at_call 33; refine cV.mono ?_; rintro e w1 ⟨rfl, hb⟩)
    clear cV
    go_loop [3] (fun i => ∃ k : Nat, k ≤ s.size ∧ i = .int .i64 k ∧ clean (s.data.toList.take k) = true) (fun i => s.size - (RowKit.intOf i).toNat)
    case atStart => exact ⟨0, Nat.zero_le _, rfl, rfl⟩
    case round =>
      obtain ⟨k, hk, rfl, hcl⟩ := hrel
      have hcl' := Lib.hid hcl
      clear hcl
      by_cases hlt : k < s.size
      · have hkl : k < s.data.toList.length := by simpa using hlt
        have hsk := Lib.hid (show s[k]'hlt = s.data.toList[k]'hkl by simp; rfl)
        by_cases hc : ctl (s[k]'hlt) = true
        · have hno := Lib.hid (clean_not s.data.toList k hkl (by rw [← hsk.out]; exact hc))
          go_wp2_with (go_at_call 34; refine (control_any _ _).mono ?_; rintro e w' ⟨rfl, rfl⟩)
          go_ret
          exact ⟨by rw [hno.out]; rfl, hb⟩
        · rw [Bool.not_eq_true] at hc
          have hyes := Lib.hid (clean_take s.data.toList k hkl hcl'.out (by rw [← hsk.out]; exact hc))
          go_wp2_with (go_at_call 34; refine (control_any _ _).mono ?_; rintro e w' ⟨rfl, rfl⟩)
          go_round
          case rel => exact ⟨k + 1, by omega, by go_num, hyes.out⟩
          case measure => simp [RowKit.intOf]; omega
      · have hks : k = s.size := by omega
        have hfin := Lib.hid (show clean s.data.toList = true by
          have h := hcl'.out
          rwa [List.take_of_length_le (by rw [← Lib.size_eq]; omega)] at h)
        clear hks
        go_wp2
        go_ret
        exact ⟨by rw [hfin.out]; rfl, hb⟩
end Go.Proofs.YtolnlhpaaomplaaDoor.Ch
