/-
  PLAIN: entries of the log as bytes and back.
-/
import Derived.Test.YtpngbfmbjldieaaCodPlain
set_option linter.unusedVariables false
namespace Go.Proofs.Ytpngbfmbjldieaa.Cd
open Bo (Row)
open Ly (word text flag num word_len num_word)

theorem com0_ok : okCom com0 := by
  refine ⟨?_, ?_, ?_, ?_, ?_, ?_, ?_, ⟨?_, fun x h => (by cases h)⟩, ?_, ?_, ?_⟩ <;> simp [com0, is64, isT, isC]
def okLg (l : Lg) : Prop := is64 l.term ∧ okCom l.com ∧ (isC l.nodes.length ∧ ∀ x ∈ l.nodes, is64 x)
theorem knd_one (x : UInt8) (r : Row) (f : Bool) : knd (some (x :: r, f)) = (x.toNat, some (r, f || decide (2 < x.toNat))) := by
  unfold knd
  rw [byt_one]
  rfl
theorem logS_at {z : Int} (h : is64 z) (x : UInt8) (r : Row) : logS (some (wrd z ++ (x :: r), false)) = if x.toNat = 1 then (⟨z, 1, (comS (some (r, false))).1, []⟩, (comS (some (r, false))).2) else if x.toNat = 2 then (⟨z, 2, com0, (rowS intS (some (r, false))).1⟩, (rowS intS (some (r, false))).2) else (⟨z, (x.toNat : Int), com0, []⟩, some (r, decide (2 < x.toNat))) := by
  have h1 := cod_int.back h (x :: r) false
  unfold logS
  simp only [h1, knd_one, Bool.false_or]
  by_cases e1 : x.toNat = 1
  · rw [if_pos e1, if_pos e1, e1]; rfl
  · rw [if_neg e1, if_neg e1]
    by_cases e2 : x.toNat = 2
    · rw [if_pos e2, if_pos e2, e2]; rfl
    · rw [if_neg e2, if_neg e2]
theorem log_back {l : Lg} (ho : okLg l) {b : Row} (hb : logB l = some b) : logS (some (b, false)) = (l, some ([], false)) := by
  obtain ⟨h1, h2, h3⟩ := ho
  unfold logB at hb
  split at hb
  · rename_i h
    obtain ⟨k1, k2, k3⟩ := h
    injection hb with hb
    subst hb
    have := logS_at h1 0 []
    rw [this, if_neg (by decide), if_neg (by decide)]
    obtain ⟨t, k, c, n⟩ := l
    simp only at k1 k2 k3
    subst k1 k2 k3
    rfl
  split at hb
  · rename_i h
    obtain ⟨k1, k3⟩ := h
    injection hb with hb
    subst hb
    show logS (some (wrd l.term ++ ((1 : UInt8) :: comB l.com), false)) = _
    rw [logS_at h1 1 _, if_pos (by decide), cod_com.whole h2]
    obtain ⟨t, k, c, n⟩ := l
    simp only at k1 k3
    subst k1 k3
    rfl
  split at hb
  · rename_i h
    obtain ⟨k1, k2⟩ := h
    injection hb with hb
    subst hb
    show logS (some (wrd l.term ++ ((2 : UInt8) :: rows wrd l.nodes), false)) = _
    rw [logS_at h1 2 _, if_neg (by decide), if_pos (by decide), cod_nodes.whole h3]
    obtain ⟨t, k, c, n⟩ := l
    simp only at k1 k2
    subst k1 k2
    rfl
  · cases hb
theorem intS_split {l : Row} (h : 8 ≤ l.length) : ∃ z r, is64 z ∧ l = wrd z ++ r := by
  refine ⟨toI (num (l.take 8)), l.drop 8, toI_is _ ?_, ?_⟩
  · have := Ly.num_lt 8 (l.take 8) (by rw [List.length_take]; omega)
    simpa using this
  · have hn := Ly.num_lt 8 (l.take 8) (by rw [List.length_take]; omega)
    unfold wrd
    rw [toU_toI (by simpa using hn), word_num _ (by rw [List.length_take]; omega), List.take_append_drop]
theorem log_short {l : Row} (h : l.length < 9) : (logS (some (l, false))).2 = none := by
  by_cases h8 : l.length < 8
  · have h1 : (intS (some (l, false))).2 = none := by
      unfold intS numS takeS
      simp only
      rw [if_pos h8]
    unfold logS
    simp only [h1]
    rfl
  · obtain ⟨z, r, hz, e⟩ := intS_split (l := l) (by omega)
    have hr : r = [] := List.eq_nil_of_length_eq_zero (by rw [e, List.length_append, wrd_len] at h; omega)
    subst hr
    have h1 := cod_int.back hz [] false
    rw [← e] at h1
    unfold logS
    simp only [h1]
    rfl
theorem log_form {l : Row} (he : endS (logS (some (l, false))).2 = 0) : logB (logS (some (l, false))).1 = some l := by
  by_cases h9 : l.length < 9
  · rw [log_short h9] at he
    cases he
  obtain ⟨z, r, hz, e⟩ := intS_split (l := l) (by omega)
  cases r with
  | nil => rw [e, List.append_nil, wrd_len] at h9; omega
  | cons x r =>
    rw [e, logS_at hz] at he ⊢
    by_cases e1 : x.toNat = 1
    · rw [if_pos e1] at he ⊢
      have := cod_com.form he
      obtain rfl : x = 1 := UInt8.toNat_inj.1 e1
      unfold logB
      rw [if_neg (by simp), if_pos (by simp)]
      simp only
      rw [← this]
      rfl
    · rw [if_neg e1] at he ⊢
      by_cases e2 : x.toNat = 2
      · rw [if_pos e2] at he ⊢
        have := cod_nodes.form he
        obtain rfl : x = 2 := UInt8.toNat_inj.1 e2
        unfold logB
        rw [if_neg (by simp), if_neg (by simp), if_pos (by simp)]
        simp only
        rw [← this]
        rfl
      · rw [if_neg e2] at he ⊢
        unfold endS at he
        simp only at he
        split at he
        · cases he
        · rename_i h0
          obtain rfl : r = [] := List.eq_nil_of_length_eq_zero (by omega)
          split at he
          · cases he
          · rename_i h1
            have hx : ¬ 2 < x.toNat := by simpa using h1
            obtain rfl : x = 0 := UInt8.toNat_inj.1 (by show x.toNat = 0; omega)
            unfold logB
            rw [if_pos (by simp)]
/-- an entry of a command, its last byte cut off -/
theorem log_cut {z : Int} (hz : is64 z) {c : Com} (hc : okCom c) {p t : Row} (he : p ++ t = comB c) (ht : t ≠ []) : (logS (some (wrd z ++ (1 :: p), false))).2 = none := by
  rw [logS_at hz, if_pos (by decide)]
  exact cod_com.cut hc he ht
end Go.Proofs.Ytpngbfmbjldieaa.Cd
