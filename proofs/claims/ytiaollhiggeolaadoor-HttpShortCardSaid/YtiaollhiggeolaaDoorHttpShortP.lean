/-
  WHAT THE WALK OF THE LAW HttpShort WANTS, plain: a message of a head and whatever is behind it.
-/
import Derived.Test.YtiaollhiggeolaaDoorHttpPiecesP
set_option linter.unusedVariables false
namespace Go.Proofs.YtiaollhiggeolaaDoor.Ht
open Go.Lib Go.RowKit

theorem hdA_head {row : Row} {fs : List Fd} {n : Nat} (hr : (13 : UInt8) ∉ row ∧ row ≠ []) (h3 : fs.all fdB = true) (hl : (headR row fs n).length ≤ 8192) (T : Row) :
    hdA true ((headR row fs n ++ T).take 8192) = some (row :: (fs.map fdR ++ [clR n]), (headR row fs n).length) := by
  obtain ⟨H, hH⟩ : ∃ H, headR row fs n = H := ⟨_, rfl⟩
  rw [hH] at hl ⊢
  have hHl : H.length = (ends (row :: (fs.map fdR ++ [clR n]))).length + 2 := by rw [← hH]; simp [headR]
  have ht : ((H ++ T).take 8192) = H ++ T.take (8192 - H.length) := by rw [List.take_append, List.take_of_length_le (by omega)]
  rw [ht, ← hH]
  unfold headR
  rw [List.append_assoc, List.cons_append, List.cons_append, List.nil_append, hdA_ends _ true _ (rows_ok hr h3) (fun _ => by simp)]
  simp
/-- a head, and what is behind it -/
theorem read_head {α : Type} {first : Row → Option α} {row : Row} {x : α} {fs : List Fd} {n : Nat} (hx : first row = some x) (hr : (13 : UInt8) ∉ row ∧ row ≠ []) (h3 : fs.all fdB = true) (hf : fs.length ≤ 31) (hn : n ≤ 65536) (hl : (headR row fs n).length ≤ 8192) (T : Row) :
    readM first (headR row fs n ++ T) = if T.length < n then .inr 91 else .inl (x, fs, T.take n, (headR row fs n).length + n) := by
  unfold readM
  rw [hdA_head hr h3 hl T]
  simp only
  rw [hx, fields_pr h3 hn hf]
  simp only
  rw [List.length_append, Nat.add_sub_cancel_left, List.drop_left]
theorem flds_cl_no {n : Nat} (h : 65536 < n) (rs : List Row) : flds none (clR n :: rs) = none := by
  rw [flds, show cutB 58 (clR n) = some (clN, 32 :: decDigits n) from cutB_at _ (by decide), Option.bind_some]
  simp only
  have hr : rng 32 126 true (decDigits n) = true := List.all_eq_true.2 fun x hx => by
    have := dec_bytes n x hx
    simp only [Bool.or_eq_true, decide_eq_true_eq]
    left; omega
  rw [dec_trim, if_pos ⟨by decide, hr, by decide⟩, if_pos (by decide), Ch.numS_dec, if_neg (c := n ≤ 65536) (by omega), if_neg (by simp)]
theorem read_head_no {α : Type} {first : Row → Option α} {row : Row} {n : Nat} (hr : (13 : UInt8) ∉ row ∧ row ≠ []) (hn : 65536 < n) (hl : (headR row [] n).length ≤ 8192) (T : Row) :
    readM first (headR row [] n ++ T) = .inr 80 := by
  unfold readM
  rw [hdA_head hr rfl hl T]
  simp only
  have hf : fields (([] : List Fd).map fdR ++ [clR n]) = none := by
    show fields [clR n] = none
    unfold fields
    rw [if_neg (by simp), flds_cl_no hn]
    rfl
  rw [hf]
  cases first row <;> rfl
def putM : Row := [80, 85, 84]
def putT : Row := [47, 97, 47, 98]
theorem put_ok : asked putM putT = true := by decide
/-- what the law reads -/
theorem short_read (k : Nat) (hk : k < 70000) (T : Row) : (headR (rowQ putM putT) [] k).length ≤ 100 ∧ readQ (headR (rowQ putM putT) [] k ++ T) = if 65536 < k then .inr 80 else if T.length < k then .inr 91 else .inl ((putM, putT), [], T.take k, (headR (rowQ putM putT) [] k).length + k) := by
  have hd : (decDigits k).length ≤ 20 := by
    rw [decDigits_length]
    rcases Nat.eq_zero_or_pos k with h | h
    · rw [nDigits_small (by omega)]; omega
    · have := Lib.numDigits_eq k h (by omega); split at this <;> omega
  have hl : (headR (rowQ putM putT) [] k).length ≤ 100 := by
    have e : (headR (rowQ putM putT) [] k).length = 39 + (decDigits k).length := by
      unfold headR clR
      simp [ends, rowQ, putM, putT, verS, clN]
      omega
    omega
  obtain ⟨f1, f2⟩ : firstQ (rowQ putM putT) = some (putM, putT) ∧ ((13 : UInt8) ∉ rowQ putM putT ∧ rowQ putM putT ≠ []) := firstQ_pr put_ok
  refine ⟨hl, ?_⟩
  by_cases h : 65536 < k
  · rw [if_pos h]
    exact read_head_no f2 h (by omega) T
  · rw [if_neg h]
    exact read_head f1 f2 rfl (by simp) (by omega) (by omega) T
/-- the law's text -/
theorem short_text (k : Nat) : [80, 85, 84, 32, 47, 97, 47, 98, 32, 72, 84, 84, 80, 47, 49, 46, 49, 13, 10, 67, 111, 110, 116, 101, 110, 116, 45, 76, 101, 110, 103, 116, 104, 58, 32] ++ decDigits k ++ [13, 10, 13, 10] = headR (rowQ putM putT) [] k := by
  unfold headR clR
  simp [ends, rowQ, putM, putT, verS, clN]
end Go.Proofs.YtiaollhiggeolaaDoor.Ht
