/-
  PLAIN: what is read is no longer than what it is read of (for CodecGets).
-/
import Derived.Test.YtpngbfmbjldieaaCodGetsP
import Derived.Test.YtpngbfmbjldieaaCodMem
set_option linter.unusedVariables false
namespace Go.Proofs.Ytpngbfmbjldieaa.Ly
open Bo (Row)
open Cd

def ln : St → Nat
  | none => 0
  | some (l, _) => l.length
theorem take_pos {n : Nat} {l : Row} {f : Bool} (h : l.length < n) : takeS n (some (l, f)) = ([], none) := by
  show (if l.length < n then _ else _) = _
  rw [if_pos h]
theorem take_neg {n : Nat} {l : Row} {f : Bool} (h : ¬ l.length < n) : takeS n (some (l, f)) = (l.take n, some (l.drop n, f)) := by
  show (if l.length < n then _ else _) = _
  rw [if_neg h]
theorem take_ln (n : Nat) : ∀ s : St, (takeS n s).1.length + ln (takeS n s).2 ≤ ln s
  | none => Nat.zero_le _
  | some (l, f) => by
    by_cases h : l.length < n
    · rw [take_pos h]; exact Nat.zero_le _
    · rw [take_neg h]
      show (l.take n).length + (l.drop n).length ≤ l.length
      rw [List.length_take, List.length_drop]
      omega
theorem num_step : ∀ s : St, (numS s).2 = none ∨ 8 + ln (numS s).2 ≤ ln s
  | none => .inl rfl
  | some (l, f) => by
    show (takeS 8 (some (l, f))).2 = none ∨ 8 + ln (takeS 8 (some (l, f))).2 ≤ l.length
    by_cases h : l.length < 8
    · left; rw [take_pos h]
    · right
      rw [take_neg h]
      show 8 + (l.drop 8).length ≤ l.length
      rw [List.length_drop]
      omega
theorem num_ln (s : St) : ln (numS s).2 ≤ ln s := by
  rcases num_step s with h | h
  · rw [h]; exact Nat.zero_le _
  · omega
theorem cnt_is (s : St) : (cntS s).2 = none ∨ (cntS s).2 = (numS s).2 := by
  unfold cntS
  cases h : (numS s).2 with
  | none => exact .inl rfl
  | some p =>
    obtain ⟨l, f⟩ := p
    show (if l.length < (numS s).1 then (0, none) else ((numS s).1, (some (l, f) : St))).2 = none ∨ (if l.length < (numS s).1 then (0, none) else ((numS s).1, (some (l, f) : St))).2 = some (l, f)
    by_cases h2 : l.length < (numS s).1
    · left; rw [if_pos h2]
    · right; rw [if_neg h2]
theorem txt_step (s : St) : (txtS s).2 = none ∧ (txtS s).1 = [] ∨ 8 + (txtS s).1.length + ln (txtS s).2 ≤ ln s := by
  unfold txtS
  cases h : (cntS s).2 with
  | none => exact .inl ⟨rfl, rfl⟩
  | some p =>
    obtain ⟨l, f⟩ := p
    have h1 : (numS s).2 = some (l, f) := by
      rcases cnt_is s with e | e
      · rw [e] at h; cases h
      · rw [← e]; exact h
    have h2 : 8 + l.length ≤ ln s := by
      rcases num_step s with e | e
      · rw [e] at h1; cases h1
      · rw [h1] at e; exact e
    have h3 := take_ln (cntS s).1 (some (l, f))
    by_cases h4 : l.length < (cntS s).1
    · left; rw [take_pos h4]; exact ⟨rfl, rfl⟩
    · right
      have : ln (some (l, f)) = l.length := rfl
      omega
theorem txt_ln (s : St) : (txtS s).1.length + ln (txtS s).2 ≤ ln s := by
  rcases txt_step s with ⟨h1, h2⟩ | h
  · rw [h1, h2]; exact Nat.zero_le _
  · omega
theorem lst_none {α : Type} (get : St → α × St) : ∀ n, lstS get n none = ([], none)
  | 0 => rfl
  | _ + 1 => rfl
theorem flat_cons (x : Row) (xs : List Row) : flatN text (x :: xs) = 8 + x.length + flatN text xs := by
  unfold flatN
  rw [List.map_cons, List.flatten_cons, List.length_append, text_len]
theorem lst_txt : ∀ (k : Nat) (s : St), flatN text (lstS txtS k s).1 + ln (lstS txtS k s).2 ≤ ln s + 8
  | 0, s => by show 0 + ln s ≤ _; omega
  | k + 1, none => by rw [lst_none]; exact Nat.zero_le _
  | k + 1, some y => by
    show flatN text ((txtS (some y)).1 :: (lstS txtS k (txtS (some y)).2).1) + ln (lstS txtS k (txtS (some y)).2).2 ≤ _
    rw [flat_cons]
    have ih := lst_txt k (txtS (some y)).2
    rcases txt_step (some y) with ⟨h1, h2⟩ | h
    · rw [h1, h2, lst_none]
      show 8 + 0 + 0 + 0 ≤ _
      omega
    · omega
theorem lst_int : ∀ (k : Nat) (s : St), (lstS intS k s).1.length ≤ ln s + 1
  | 0, s => Nat.zero_le _
  | k + 1, none => Nat.zero_le _
  | k + 1, some y => by
    show (lstS intS k (numS (some y)).2).1.length + 1 ≤ _
    have ih := lst_int k (numS (some y)).2
    rcases num_step (some y) with h1 | h
    · rw [h1, lst_none]
      show 0 + 1 ≤ _
      omega
    · omega
theorem cnt_ln (s : St) : ln (cntS s).2 ≤ ln s := by
  rcases cnt_is s with h | h
  · rw [h]; exact Nat.zero_le _
  · rw [h]; exact num_ln s
theorem com_ln (s : St) : (comS s).1.book.length + (comS s).1.name.length + (comS s).1.data.length + (comS s).1.mat.length + (comS s).1.non.length + (comS s).1.tok.length + flatN text (comS s).1.names ≤ ln s + 8 := by
  have a := num_ln s
  obtain ⟨s1, e1⟩ : ∃ q, (numS s).2 = q := ⟨_, rfl⟩
  have b := txt_ln s1
  obtain ⟨s2, e2⟩ : ∃ q, (txtS s1).2 = q := ⟨_, rfl⟩
  have c := txt_ln s2
  obtain ⟨s3, e3⟩ : ∃ q, (txtS s2).2 = q := ⟨_, rfl⟩
  have d := txt_ln s3
  obtain ⟨s4, e4⟩ : ∃ q, (txtS s3).2 = q := ⟨_, rfl⟩
  have e := txt_ln s4
  obtain ⟨s5, e5⟩ : ∃ q, (txtS s4).2 = q := ⟨_, rfl⟩
  have f := txt_ln s5
  obtain ⟨s6, e6⟩ : ∃ q, (txtS s5).2 = q := ⟨_, rfl⟩
  have g := txt_ln s6
  obtain ⟨s7, e7⟩ : ∃ q, (txtS s6).2 = q := ⟨_, rfl⟩
  have h := lst_txt (cntS s7).1 (cntS s7).2
  have k := cnt_ln s7
  have q : comS s = (⟨toI (numS s).1, (txtS (numS s).2).1, (txtS (txtS (numS s).2).2).1, (txtS (txtS (txtS (numS s).2).2).2).1, (txtS (txtS (txtS (txtS (numS s).2).2).2).2).1, (txtS (txtS (txtS (txtS (txtS (numS s).2).2).2).2).2).1, (txtS (txtS (txtS (txtS (txtS (txtS (numS s).2).2).2).2).2).2).1, (lstS txtS (cntS (txtS (txtS (txtS (txtS (txtS (txtS (numS s).2).2).2).2).2).2).2).1 (cntS (txtS (txtS (txtS (txtS (txtS (txtS (numS s).2).2).2).2).2).2).2).2).1, (comS s).1.pos, (comS s).1.ses, (comS s).1.seq⟩, (comS s).2) := rfl
  rw [e1, e2, e3, e4, e5, e6, e7] at q
  rw [q]
  simp only
  rw [e1] at a
  rw [e2] at b
  rw [e3] at c
  rw [e4] at d
  rw [e5] at e
  rw [e6] at f
  rw [e7] at g
  omega
theorem byt_ln (s : St) : ln (bytS s).2 ≤ ln s := by
  have := take_ln 1 s
  show ln (takeS 1 s).2 ≤ _
  omega
theorem wrong_ln (b : Bool) : ∀ s : St, ln (wrong b s) = ln s
  | none => rfl
  | some (l, f) => rfl
theorem log_ln (s : St) : ((logS s).1.com.book.length + (logS s).1.com.name.length + (logS s).1.com.data.length + (logS s).1.com.mat.length + (logS s).1.com.non.length + (logS s).1.com.tok.length + flatN text (logS s).1.com.names ≤ ln s + 8) ∧ (logS s).1.nodes.length ≤ ln s + 1 := by
  have a := num_ln s
  have b := byt_ln (numS s).2
  have e : logS s = if (bytS (numS s).2).1 = 1 then (⟨(intS s).1, 1, (comS (wrong (decide (2 < (bytS (numS s).2).1)) (bytS (numS s).2).2)).1, []⟩, (comS (wrong (decide (2 < (bytS (numS s).2).1)) (bytS (numS s).2).2)).2)
    else if (bytS (numS s).2).1 = 2 then (⟨(intS s).1, 2, com0, (rowS intS (wrong (decide (2 < (bytS (numS s).2).1)) (bytS (numS s).2).2)).1⟩, (rowS intS (wrong (decide (2 < (bytS (numS s).2).1)) (bytS (numS s).2).2)).2)
    else (⟨(intS s).1, ((bytS (numS s).2).1 : Int), com0, []⟩, wrong (decide (2 < (bytS (numS s).2).1)) (bytS (numS s).2).2) := rfl
  have c := wrong_ln (decide (2 < (bytS (numS s).2).1)) (bytS (numS s).2).2
  obtain ⟨z, hz⟩ : ∃ q, wrong (decide (2 < (bytS (numS s).2).1)) (bytS (numS s).2).2 = q := ⟨_, rfl⟩
  rw [hz] at e c
  have f := com_ln z
  have g : (rowS intS z).1.length ≤ ln z + 1 := by
    have h1 := lst_int (cntS z).1 (cntS z).2
    have h2 := cnt_ln z
    show (lstS intS (cntS z).1 (cntS z).2).1.length ≤ _
    omega
  rw [e]
  split
  · refine ⟨?_, Nat.zero_le _⟩
    show (comS z).1.book.length + (comS z).1.name.length + (comS z).1.data.length + (comS z).1.mat.length + (comS z).1.non.length + (comS z).1.tok.length + flatN text (comS z).1.names ≤ _
    omega
  · split
    · refine ⟨Nat.zero_le _, ?_⟩
      show (rowS intS z).1.length ≤ _
      omega
    · exact ⟨Nat.zero_le _, Nat.zero_le _⟩
end Go.Proofs.Ytpngbfmbjldieaa.Ly
