/-
  THE WALK OF THE REFERENCE's Number.
-/
import Derived.Test.YtljacnedlgnldaaDoorCharNum
set_option linter.unusedVariables false
namespace Go.Proofs.YtljacnedlgnldaaDoor.Ch
open Go.Lib Go.RowKit

set_option maxHeartbeats 2000000 in
set_option maxRecDepth 100000 in
theorem refNumber_any (s : ByteArray) (m : Nat) (w : World) (hs : s.size ≤ 9223372036854775807) (hm : m ≤ 18446744073709551615) :
    Calls Tryd.prog 20 #[.string s, .int .u64 (m : Int)] w fun e w' => e = numE (numS s.data.toList m) ∧ w = w' := by
  have hsl : s.size = s.data.toList.length := Lib.size_eq s
  by_cases h0 : s.size = 0
  · have hE : ((s.size : Int) == 0) = true := by rw [h0]; rfl
    have hn : s.data.toList = [] := List.eq_nil_of_length_eq_zero (by omega)
    rw [hn]
    clear hn hsl h0
    go_enter Tryd.func20, Tryd.ntmps20
    go_wp2
    go_ret2
    exact ⟨rfl, rfl⟩
  have hE : ((s.size : Int) == 0) = false := beq_eq_false_iff_ne.2 (by omega)
  have hne : s.data.toList ≠ [] := fun h => h0 (by rw [hsl, h]; rfl)
  have h0z : 0 < s.size := by omega
  have hsl' := Lib.hid hsl
  have hfst : s.data.toList.getD 0 0 = s[0]'h0z := by
    simp only [List.getD_eq_getElem?_getD]
    rw [List.getElem?_eq_getElem (by omega)]
    rfl
  by_cases h1 : lead0 s.data.toList = true
  · rw [numS_lead h1]
    have h2 : 1 < s.size ∧ (s[0]'h0z).toNat = 48 := by
      have h := of_decide_eq_true h1
      rw [hfst, ← hsl] at h
      exact h
    obtain ⟨h3, h4⟩ := h2
    have h5 : (((s[0]'h0z).toNat : Int) == 48) = true := by simp; omega
    have h4' := Lib.hid h4
    clear h1 h4 hsl hfst hne h0
    go_enter Tryd.func20, Tryd.ntmps20
    go_wp2
    go_ret2
    exact ⟨rfl, rfl⟩
  have h2 : ¬ (1 < s.size ∧ (s[0]'h0z).toNat = 48) := by
    intro h
    apply h1
    unfold lead0
    rw [hfst, ← hsl]
    exact decide_eq_true h
  have h2' := Lib.hid h2
  rw [Bool.not_eq_true] at h1
  have h1' := Lib.hid h1
  have hne' := Lib.hid hne
  have hcase : ¬ 1 < s.size ∨ (1 < s.size ∧ (((s[0]'h0z).toNat : Int) == 48) = false) := by
    by_cases h : 1 < s.size
    · exact .inr ⟨h, by simp; omega⟩
    · exact .inl h
  clear h2 h1 hne hfst hsl
  rcases hcase with hc | ⟨hc, hc'⟩
  all_goals
    go_enter Tryd.func20, Tryd.ntmps20
    go_wp2
    go_loop [6, 7] (fun v i => ∃ k : Nat, k ≤ s.size ∧ i = .int .i64 k ∧ v = .int .u64 (numV (s.data.toList.take k) : Int) ∧ (s.data.toList.take k).all isD = true ∧ numV (s.data.toList.take k) ≤ m) (fun _ i => s.size - (RowKit.intOf i).toNat)
    case atStart => exact ⟨0, Nat.zero_le _, rfl, rfl, rfl, Nat.zero_le _⟩
    case round =>
      obtain ⟨k, hk, rfl, rfl, hd, hvm⟩ := hrel
      have hd' := Lib.hid hd
      clear hd
      obtain ⟨v, hv⟩ : ∃ v, numV (s.data.toList.take k) = v := ⟨_, rfl⟩
      rw [hv] at hvm ⊢
      have hv' := Lib.hid hv
      clear hv
      by_cases hlt : k < s.size
      · have hkl : k < s.data.toList.length := by rw [← hsl'.out]; exact hlt
        obtain ⟨c, hc0⟩ : ∃ c, s[k]'hlt = c := ⟨_, rfl⟩
        have hsk := Lib.hid (show s.data.toList[k]'hkl = c by rw [← hc0]; simp; rfl)
        have hcl := c.toNat_lt
        by_cases d1 : c.toNat < 48
        · have hres := Lib.hid (numS_digit (most := m) hkl (by rw [hsk.out]; exact isD_no (.inl d1)))
          go_wp2
          go_ret2
          exact ⟨by rw [hres.out]; rfl, rfl⟩
        by_cases d2 : 57 < c.toNat
        · have hres := Lib.hid (numS_digit (most := m) hkl (by rw [hsk.out]; exact isD_no (.inr d2)))
          go_wp2
          go_ret2
          exact ⟨by rw [hres.out]; rfl, rfl⟩
        by_cases d3 : 10 * v + (c.toNat - 48) ≤ m
        · have hst := Lib.hid (all_take_step s.data.toList k hkl hd'.out (by rw [hsk.out]; exact isD_yes (by omega) (by omega)))
          have hsv := Lib.hid (numV_step s.data.toList k hkl)
          go_wp2
          all_goals
            go_round
            case rel => exact ⟨k + 1, by omega, by go_num, by rw [hsv.out, hv'.out, hsk.out]; go_num, hst.out, by rw [hsv.out, hv'.out, hsk.out]; exact d3⟩
            case measure => simp [RowKit.intOf]; omega
        · have hres := Lib.hid (numS_over (most := m) hkl (by rw [hsk.out, hv'.out]; omega))
          go_wp2
          all_goals
            go_ret2
            exact ⟨by rw [hres.out]; rfl, rfl⟩
      · have hks : k = s.size := by omega
        have hall : s.data.toList.take k = s.data.toList := List.take_of_length_le (by rw [← hsl'.out]; omega)
        have hd2 := hd'.out
        have hv2 := hv'.out
        rw [hall] at hd2 hv2
        have hres := Lib.hid (numS_yes (most := m) hne'.out h1'.out hd2 (by rw [hv2]; exact hvm))
        have hv3 := Lib.hid hv2
        clear hks hall hd2 hv2
        go_wp2
        go_ret2
        exact ⟨by rw [hres.out, hv3.out]; rfl, rfl⟩
end Go.Proofs.YtljacnedlgnldaaDoor.Ch
