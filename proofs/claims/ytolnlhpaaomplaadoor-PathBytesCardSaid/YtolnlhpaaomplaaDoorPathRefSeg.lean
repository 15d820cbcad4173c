/-
  THE WALK OF THE REFERENCE's Segment.
-/
import Derived.Test.YtolnlhpaaomplaaDoorPathRef
import Derived.IntWalk
import Derived.BigQuiet
import Derived.Deep.QuietTactic
set_option linter.unusedVariables false
namespace Go.Proofs.YtolnlhpaaomplaaDoor.Pa
open Go.Lib Go.RowKit

theorem below_drewN {a w : World} (n : Nat) (h : Below a.heap.size a w) : Below a.heap.size a (w.drewN n) := ⟨h.os, h.tape, h.output, h.size, h.block⟩
theorem cat_data (a b c : ByteArray) (h : a ++ b = c) : c.data.toList = a.data.toList ++ b.data.toList := by rw [← h, ByteArray.data_append, Array.toList_append]
theorem cat_size (a b c : ByteArray) (h : a ++ b = c) : c.size = a.size + b.size := by rw [← h, ByteArray.size_append]
theorem drop_head (s : ByteArray) (k : Nat) (h : k < s.size) : s.data.toList.drop k = s[k]'h :: s.data.toList.drop (k + 1) := by
  have hl : k < s.data.toList.length := by rw [← Lib.size_eq]; exact h
  rw [List.drop_eq_getElem_cons hl]; rfl
theorem one_data (s : ByteArray) (k : Nat) (h : k < s.size) : (s.extract k (k + 1)).data.toList = [s[k]'h] := by
  rw [Lib.extract_data, show k + 1 - k = 1 by omega, drop_head s k h]; rfl
theorem take_snoc (s : ByteArray) (k : Nat) (h : k < s.size) : s.data.toList.take (k + 1) = s.data.toList.take k ++ [s[k]'h] := by
  have hl : k < s.data.toList.length := by rw [← Lib.size_eq]; exact h
  rw [List.take_add_one, List.getElem?_eq_getElem hl]; rfl
theorem seg_take (s : ByteArray) (k : Nat) (h : k < s.size) : seg (s.data.toList.take (k + 1)) = seg (s.data.toList.take k) ++ escB (s[k]'h) := by
  rw [take_snoc s k h]; unfold seg; simp
/-- a digit, cut out of the sixteen -/
theorem hexU_cut : ∀ q : Fin 16, ((⟨#[48, 49, 50, 51, 52, 53, 54, 55, 56, 57, 65, 66, 67, 68, 69, 70]⟩ : ByteArray).extract q.val (q.val + 1)).data.toList = [hexU.getD q.val 0] := by decide +kernel

set_option maxHeartbeats 4000000 in
set_option maxRecDepth 100000 in
theorem refSegment_any (s : ByteArray) (w : World) (hs : s.size ≤ 1099511627776) :
    Calls Tryd.prog 10 #[.string s] w fun e w' => (∃ x : ByteArray, x.data.toList = seg s.data.toList ∧ e = .returned (.string x)) ∧ Below w.heap.size w w' := by
  go_enter Tryd.func10, Tryd.ntmps10
  go_wp2
  go_loopw [3, 4] (fun s3 s4 wr => ∃ (k : Nat) (acc : ByteArray), s3 = .string acc ∧ s4 = .int .i64 (k : Int) ∧ k ≤ s.size ∧ acc.data.toList = seg (s.data.toList.take k) ∧ Below w.heap.size w wr) (fun s3 s4 wr => s.size - (RowKit.intOf s4).toNat)
  case atStart => exact ⟨0, _, rfl, rfl, Nat.zero_le _, rfl, Below.refl _ _⟩
  case round =>
    obtain ⟨k, acc, rfl, rfl, hk, hacc, hB⟩ := hrel
    have hal : acc.size ≤ 3 * k := by
      have h1 := seg_len (s.data.toList.take k)
      rw [← hacc, ← Lib.size_eq, List.length_take] at h1
      omega
    have hB' := Lib.hid hB
    clear hB
    by_cases hlt : k < s.size
    · obtain ⟨A, hA⟩ : ∃ A, k + 1 = A := ⟨_, rfl⟩
      have hod := one_data s k hlt
      have hst := seg_take s k hlt
      rw [hA] at hod hst
      obtain ⟨c, hc⟩ : ∃ c, s[k]'hlt = c := ⟨_, rfl⟩
      rw [hc] at hod hst
      have hAI : (k : Int) + 1 = (A : Int) := by omega
      have j1 : (k : Int) ≤ (A : Int) := by omega
      have j2 : (A : Int) ≤ (s.size : Int) := by omega
      have j3 : (0 : Int) ≤ (k : Int) := by omega
      have j4 : ¬ (A : Int) < (k : Int) := by omega
      have j5 : ¬ (s.size : Int) < (A : Int) := by omega
      have j6 : A ≤ s.size := by omega
      have j7 : k < A := by omega
      have cB := refBare_any c wr
      obtain ⟨b1, hb1⟩ : ∃ b1, s.extract k A = b1 := ⟨_, rfl⟩
      rw [hb1] at hod
      have hb1s : b1.size = 1 := by rw [Lib.size_eq, hod]; rfl
      obtain ⟨p1, hp1⟩ : ∃ q, acc ++ b1 = q := ⟨_, rfl⟩
      have m4 : ¬ 9223372036854775807 < acc.size + b1.size := by omega
      by_cases hbr : bare c = true
      · rw [hbr] at cB
        have hn := Lib.hid (show p1.data.toList = seg (s.data.toList.take A) by
          rw [hst, cat_data _ _ _ hp1, hod, hacc]
          unfold escB; rw [if_pos hbr])
        clear hst hod hacc hbr hb1s hA
        go_wp2_with (go_at_call 19; refine cB.mono ?_; rintro e w2 ⟨rfl, rfl⟩)
        go_roundw
        case rel => exact ⟨A, p1, rfl, rfl, j6, hn.out, hB'.out⟩
        case measure => simp [RowKit.intOf]; omega
      · have hbf : bare c = false := by simpa using hbr
        rw [hbf] at cB
        obtain ⟨v, hv⟩ : ∃ v, c.toNat = v := ⟨_, rfl⟩
        have hv256 : v < 256 := by rw [← hv]; exact c.toNat_lt
        obtain ⟨q, hq⟩ : ∃ q, v / 16 = q := ⟨_, rfl⟩
        obtain ⟨r, hr⟩ : ∃ r, v % 16 = r := ⟨_, rfl⟩
        have hq16 : q < 16 := by omega
        have hr16 : r < 16 := by omega
        have d1 : (v : Int) / 16 = (q : Int) := by omega
        have d2 : (v : Int) % 16 = (r : Int) := by omega
        obtain ⟨Q, hQ⟩ : ∃ Q, q + 1 = Q := ⟨_, rfl⟩
        obtain ⟨R, hR⟩ : ∃ R, r + 1 = R := ⟨_, rfl⟩
        have d3 : (q : Int) + 1 = (Q : Int) := by omega
        have d4 : (r : Int) + 1 = (R : Int) := by omega
        have e1 := hexU_cut ⟨q, hq16⟩
        have e2 := hexU_cut ⟨r, hr16⟩
        simp only at e1 e2
        rw [hQ] at e1
        rw [hR] at e2
        obtain ⟨x1, hx1⟩ : ∃ x, (⟨#[48, 49, 50, 51, 52, 53, 54, 55, 56, 57, 65, 66, 67, 68, 69, 70]⟩ : ByteArray).extract q Q = x := ⟨_, rfl⟩
        obtain ⟨x2, hx2⟩ : ∃ x, (⟨#[48, 49, 50, 51, 52, 53, 54, 55, 56, 57, 65, 66, 67, 68, 69, 70]⟩ : ByteArray).extract r R = x := ⟨_, rfl⟩
        rw [hx1] at e1
        rw [hx2] at e2
        have z1 : x1.size = 1 := by rw [Lib.size_eq, e1]; rfl
        have z2 : x2.size = 1 := by rw [Lib.size_eq, e2]; rfl
        obtain ⟨y1, hy1⟩ : ∃ y, (⟨#[37]⟩ : ByteArray) ++ x1 = y := ⟨_, rfl⟩
        have hy1d := cat_data _ _ _ hy1
        have y1s : y1.size = 2 := by rw [Lib.size_eq, hy1d, e1]; rfl
        obtain ⟨y2, hy2⟩ : ∃ y, y1 ++ x2 = y := ⟨_, rfl⟩
        have hy2d := cat_data _ _ _ hy2
        have y2s : y2.size = 3 := by rw [Lib.size_eq, hy2d, hy1d, e1, e2]; rfl
        obtain ⟨y3, hy3⟩ : ∃ y, acc ++ y2 = y := ⟨_, rfl⟩
        have hn := Lib.hid (show y3.data.toList = seg (s.data.toList.take A) by
          rw [hst, cat_data _ _ _ hy3, hy2d, hy1d, e1, e2, hacc]
          unfold escB; rw [if_neg hbr]
          unfold escH
          rw [hv, hq, hr]; rfl)
        have n1 : ¬ 9223372036854775807 < (⟨#[37]⟩ : ByteArray).size + x1.size := by rw [z1]; decide
        have n2 : ¬ 9223372036854775807 < y1.size + x2.size := by omega
        have n3 : ¬ 9223372036854775807 < acc.size + y2.size := by omega
        have k1 : (0 : Int) ≤ (q : Int) := by omega
        have k2 : (0 : Int) ≤ (r : Int) := by omega
        have k3 : ¬ (Q : Int) < (q : Int) := by omega
        have k4 : ¬ (R : Int) < (r : Int) := by omega
        have k5 : (q : Int) ≤ (Q : Int) := by omega
        have k6 : (r : Int) ≤ (R : Int) := by omega
        have k7 : (Q : Int) ≤ 16 := by omega
        have k8 : (R : Int) ≤ 16 := by omega
        clear hst hod hacc hbr hb1s hA e1 e2 z1 z2 hy1d y1s hy2d y2s hq hr hQ hR
        subst hv
        go_wp2_with (go_at_call 19; refine cB.mono ?_; rintro e w2 ⟨rfl, rfl⟩)
        go_quiet (fail)
        go_wp2
        go_roundw
        case rel => exact ⟨A, y3, rfl, rfl, j6, hn.out, below_drewN _ hB'.out⟩
        case measure => simp [RowKit.intOf]; omega
    · have hf : acc.data.toList = seg s.data.toList := by rw [hacc, List.take_of_length_le (by rw [← Lib.size_eq]; omega)]
      clear hacc
      go_wp2
      go_ret
      exact ⟨⟨acc, hf, rfl⟩, hB'.out⟩
end Go.Proofs.YtolnlhpaaomplaaDoor.Pa
