/-
  PLAIN LAWS OF LAYER http: fields, requests and responses read ('readQ', 'readA') and printed ('write'), and that what is printed is read as itself.
-/
import Derived.Test.YtgpkkdimafmehaaDoorHttpPlain
set_option linter.unusedVariables false
namespace Go.Proofs.YtgpkkdimafmehaaDoor.Ht
open Go.Lib

/-- a field -/
abbrev Fd := Row × Row
def clS : Row := [99, 111, 110, 116, 101, 110, 116, 45, 108, 101, 110, 103, 116, 104]
def teS : Row := [116, 114, 97, 110, 115, 102, 101, 114, 45, 101, 110, 99, 111, 100, 105, 110, 103]
def clN : Row := [67, 111, 110, 116, 101, 110, 116, 45, 76, 101, 110, 103, 116, 104]
def verS : Row := [72, 84, 84, 80, 47, 49, 46, 49]
/-- rows as fields, and the body's length, if one tells it -/
def flds : Option Nat → List Row → Option (List Fd × Option Nat)
  | l, [] => some ([], l)
  | l, r :: rs => (cutB 58 r).bind fun p =>
    if nmB p.1 = true ∧ rng 32 126 true (trim p.2) = true ∧ Ch.low p.1 ≠ teS then
      (if Ch.low p.1 = clS then (if l = none ∧ (Ch.numS (trim p.2) 65536).2 = true then flds (some (Ch.numS (trim p.2) 65536).1) rs else none)
      else (flds l rs).map fun q => ((p.1, trim p.2) :: q.1, q.2))
    else none
/-- all of a head's fields, and the body's length -/
def fields (rows : List Row) : Option (List Fd × Nat) := if 32 < rows.length then none else (flds none rows).map fun q => (q.1, q.2.getD 0)
def asked (m t : Row) : Bool := decide (0 < m.length ∧ m.length < 17) && rng 65 90 false m && (decide (0 < t.length ∧ t.length < 257) && rng 33 126 false t)
/-- a request's first row -/
def firstQ (r : Row) : Option (Row × Row) := (cutB 32 r).bind fun p => (cutB 32 p.2).bind fun q => if asked p.1 q.1 = true ∧ q.2 = verS then some (p.1, q.1) else none
/-- a response's first row -/
def firstA (r : Row) : Option Nat := (cutB 32 r).bind fun p => (cutB 32 p.2).bind fun q =>
  if p.1 = verS ∧ q.1.length = 3 ∧ rng 48 57 false q.1 = true ∧ (49 ≤ (q.1.getD 0 0).toNat ∧ (q.1.getD 0 0).toNat ≤ 53) ∧ rng 32 126 false q.2 = true then
    some (100 * ((q.1.getD 0 0).toNat - 48) + 10 * ((q.1.getD 1 0).toNat - 48) + ((q.1.getD 2 0).toNat - 48)) else none
/-- a message read: what its first row says, its fields, its body, how many bytes it has; a code 91 ¦ 80 -/
def readM {α : Type} (first : Row → Option α) (b : Row) : (α × List Fd × Row × Nat) ⊕ Int := match hdA true (b.take 8192) with
  | none => if b.length < 8192 then .inr 91 else .inr 80
  | some ([], _) => .inr 80
  | some (r :: rs, k) => match first r, fields rs with
    | some x, some (fs, n) => if b.length - k < n then .inr 91 else .inl (x, fs, (b.drop k).take n, k + n)
    | _, _ => .inr 80
def readQ (b : Row) := readM firstQ b
def readA (b : Row) := readM firstA b

/-! ### printed -/
def fdB (f : Fd) : Bool := nmB f.1 && rng 32 126 true f.2 && (decide (trim f.2 = f.2) && (decide (Ch.low f.1 ≠ clS) && decide (Ch.low f.1 ≠ teS)))
def fdR (f : Fd) : Row := f.1 ++ 58 :: 32 :: f.2
def clR (n : Nat) : Row := clN ++ 58 :: 32 :: decDigits n
/-- a message's head -/
def headR (row : Row) (fs : List Fd) (n : Nat) : Row := ends (row :: (fs.map fdR ++ [clR n])) ++ [13, 10]
def write (row : Row) (fs : List Fd) (body : Row) : Row × Int :=
  if 31 < fs.length ∨ fs.all fdB = false then ([], 80) else if 8192 < (headR row fs body.length).length ∨ 65536 < body.length then ([], 11) else (headR row fs body.length ++ body, 0)

theorem nmC_no : nmC 58 = false ∧ nmC 13 = false := by decide
theorem nmB_no {s : Row} (h : nmB s = true) {c : UInt8} (hc : nmC c = false) : c ∉ s := fun hm => by
  unfold nmB at h
  simp only [Bool.and_eq_true, List.all_eq_true] at h
  have := h.1 c hm
  rw [hc] at this; cases this
theorem rng_no {lo hi : Nat} {tab : Bool} {s : Row} (h : rng lo hi tab s = true) {c : UInt8} (hc : ¬ (lo ≤ c.toNat ∧ c.toNat ≤ hi)) (h9 : c ≠ 9) : c ∉ s := fun hm => by
  unfold rng at h
  have := List.all_eq_true.1 h c hm
  simp only [Bool.or_eq_true, decide_eq_true_eq, Bool.and_eq_true, beq_iff_eq] at this
  rcases this with h | h
  · exact hc h
  · exact h9 h.2
theorem trim_blank (v : Row) : trim (32 :: v) = trim v := by
  unfold trim
  rw [List.dropWhile_cons, if_pos (by decide)]
theorem dropWhile_id {p : UInt8 → Bool} {s : Row} (h : ∀ x, s.head? = some x → p x = false) : s.dropWhile p = s := by
  cases s with
  | nil => rfl
  | cons x t => rw [List.dropWhile_cons, if_neg (by rw [h x rfl]; decide)]
theorem trim_id {s : Row} (h : ∀ x ∈ s, bl x = false) : trim s = s := by
  unfold trim
  rw [dropWhile_id (fun x hx => h x (List.mem_of_mem_head? hx)), dropWhile_id (fun x hx => h x (by
    have := List.mem_of_mem_head? hx
    exact List.mem_reverse.1 this)), List.reverse_reverse]
theorem dec_bytes (n : Nat) : ∀ x ∈ decDigits n, 48 ≤ x.toNat ∧ x.toNat ≤ 57 := fun x hx => by
  have := List.all_eq_true.1 (Ch.all_dec n) x hx
  unfold Ch.isD at this
  exact of_decide_eq_true this
theorem dec_trim (n : Nat) : trim (32 :: decDigits n) = decDigits n := by
  rw [trim_blank]
  refine trim_id fun x hx => ?_
  have := dec_bytes n x hx
  unfold bl
  rw [Bool.or_eq_false_iff, beq_eq_false_iff_ne, beq_eq_false_iff_ne]
  constructor <;> (rintro rfl; revert this; decide)
theorem fdB_parts {f : Fd} (h : fdB f = true) : nmB f.1 = true ∧ rng 32 126 true f.2 = true ∧ trim f.2 = f.2 ∧ Ch.low f.1 ≠ clS ∧ Ch.low f.1 ≠ teS := by
  unfold fdB at h
  simp only [Bool.and_eq_true, decide_eq_true_eq] at h
  exact ⟨h.1.1, h.1.2, h.2.1, h.2.2.1, h.2.2.2⟩
theorem flds_one {f : Fd} (h : fdB f = true) (l : Option Nat) (rs : List Row) : flds l (fdR f :: rs) = (flds l rs).map fun q => (f :: q.1, q.2) := by
  obtain ⟨h1, h2, h3, h4, h5⟩ := fdB_parts h
  rw [flds, show cutB 58 (fdR f) = some (f.1, 32 :: f.2) from cutB_at _ (nmB_no h1 (by decide)), Option.bind_some]
  simp only
  rw [trim_blank, h3, if_pos ⟨h1, h2, h5⟩, if_neg h4]
theorem flds_cl {n : Nat} (h : n ≤ 65536) (rs : List Row) : flds none (clR n :: rs) = flds (some n) rs := by
  rw [flds, show cutB 58 (clR n) = some (clN, 32 :: decDigits n) from cutB_at _ (by decide), Option.bind_some]
  simp only
  have hr : rng 32 126 true (decDigits n) = true := List.all_eq_true.2 fun x hx => by
    have := dec_bytes n x hx
    simp only [Bool.or_eq_true, decide_eq_true_eq]
    left; omega
  rw [dec_trim, if_pos ⟨by decide, hr, by decide⟩, if_pos (by decide), Ch.numS_dec, if_pos h, if_pos ⟨trivial, rfl⟩]
theorem flds_all : ∀ (fs : List Fd) (l : Option Nat) (rs : List Row), fs.all fdB = true → flds l (fs.map fdR ++ rs) = (flds l rs).map fun q => (fs ++ q.1, q.2)
  | [], l, rs, _ => by
    show flds l rs = _
    cases flds l rs with
    | none => rfl
    | some q => rfl
  | f :: fs, l, rs, h => by
    simp only [List.all_cons, Bool.and_eq_true] at h
    show flds l (fdR f :: (fs.map fdR ++ rs)) = _
    rw [flds_one h.1, flds_all fs l rs h.2]
    cases flds l rs <;> rfl
theorem fields_pr {fs : List Fd} {n : Nat} (h : fs.all fdB = true) (hn : n ≤ 65536) (hl : fs.length ≤ 31) : fields (fs.map fdR ++ [clR n]) = some (fs, n) := by
  unfold fields
  rw [if_neg (by simp; omega), flds_all fs none [clR n] h, flds_cl hn, show flds (some n) [] = some ([], some n) from rfl]
  simp
theorem clR_ok (n : Nat) : (13 : UInt8) ∉ clR n ∧ clR n ≠ [] := by
  refine ⟨fun h => ?_, by simp [clR, clN]⟩
  unfold clR at h
  rcases List.mem_append.1 h with h | h
  · revert h; decide
  · rcases List.mem_cons.1 h with h | h
    · revert h; decide
    · rcases List.mem_cons.1 h with h | h
      · revert h; decide
      · have := dec_bytes n _ h
        revert this; decide
theorem fdR_ok {f : Fd} (h : fdB f = true) : (13 : UInt8) ∉ fdR f ∧ fdR f ≠ [] := by
  obtain ⟨h1, h2, _⟩ := fdB_parts h
  refine ⟨fun hm => ?_, by simp [fdR]⟩
  unfold fdR at hm
  rcases List.mem_append.1 hm with hm | hm
  · exact nmB_no h1 (by decide) hm
  · rcases List.mem_cons.1 hm with hm | hm
    · revert hm; decide
    · rcases List.mem_cons.1 hm with hm | hm
      · revert hm; decide
      · exact rng_no h2 (by decide) (by decide) hm
theorem rows_ok {row : Row} {fs : List Fd} {n : Nat} (hr : (13 : UInt8) ∉ row ∧ row ≠ []) (h : fs.all fdB = true) : ∀ a ∈ row :: (fs.map fdR ++ [clR n]), (13 : UInt8) ∉ a ∧ a ≠ [] := fun a ha => by
  rcases List.mem_cons.1 ha with rfl | ha
  · exact hr
  · rcases List.mem_append.1 ha with ha | ha
    · obtain ⟨f, hf, rfl⟩ := List.mem_map.1 ha
      exact fdR_ok (List.all_eq_true.1 h f hf)
    · rw [List.mem_singleton.1 ha]; exact clR_ok n
/-- what is printed is read as itself, whatever is behind it -/
theorem read_pr {α : Type} {first : Row → Option α} {row : Row} {x : α} {fs : List Fd} {body s : Row} (hx : first row = some x) (hr : (13 : UInt8) ∉ row ∧ row ≠ []) (hw : write row fs body = (s, 0)) (more : Row) :
    readM first (s ++ more) = .inl (x, fs, body, s.length) := by
  unfold write at hw
  split at hw
  · simp at hw
  · rename_i h1
    split at hw
    · simp at hw
    · rename_i h2
      simp only [Prod.mk.injEq, and_true] at hw
      subst hw
      have h3 : fs.all fdB = true := by
        cases h : fs.all fdB with
        | true => rfl
        | false => exact absurd (.inr h) h1
      obtain ⟨H, hH⟩ : ∃ H, headR row fs body.length = H := ⟨_, rfl⟩
      rw [hH] at h2 ⊢
      have hHl : H.length = (ends (row :: (fs.map fdR ++ [clR body.length]))).length + 2 := by rw [← hH]; simp [headR]
      have ht : ((H ++ body ++ more).take 8192) = H ++ (body ++ more).take (8192 - H.length) := by
        rw [List.append_assoc, List.take_append, List.take_of_length_le (by omega)]
      have hd : hdA true ((H ++ body ++ more).take 8192) = some (row :: (fs.map fdR ++ [clR body.length]), H.length) := by
        rw [ht, ← hH]
        unfold headR
        rw [List.append_assoc, List.cons_append, List.cons_append, List.nil_append, hdA_ends _ true _ (rows_ok hr h3) (fun _ => by simp)]
        simp
      unfold readM
      rw [hd]
      simp only
      rw [hx, fields_pr h3 (by omega) (by omega)]
      simp only
      rw [if_neg (by simp)]
      congr 2
      rw [List.append_assoc, List.drop_left, List.take_left]
      simp
/-- a message isn't whole until its last byte -/
theorem read_part {α : Type} {first : Row → Option α} {row : Row} {x : α} {fs : List Fd} {body s : Row} (hx : first row = some x) (hr : (13 : UInt8) ∉ row ∧ row ≠ []) (hw : write row fs body = (s, 0)) (k : Nat) (hk : k < s.length) :
    readM first (s.take k) = .inr 91 := by
  unfold write at hw
  split at hw
  · simp at hw
  · rename_i h1
    split at hw
    · simp at hw
    · rename_i h2
      simp only [Prod.mk.injEq, and_true] at hw
      subst hw
      have h3 : fs.all fdB = true := by
        cases h : fs.all fdB with
        | true => rfl
        | false => exact absurd (.inr h) h1
      obtain ⟨H, hH⟩ : ∃ H, headR row fs body.length = H := ⟨_, rfl⟩
      rw [hH] at h2 hk ⊢
      have hHl : H.length = (ends (row :: (fs.map fdR ++ [clR body.length]))).length + 2 := by rw [← hH]; simp [headR]
      unfold readM
      by_cases hkh : k < H.length
      · have e : ((H ++ body).take k).take 8192 = H.take k := by
          rw [List.take_append_of_le_length (by omega), List.take_of_length_le (by rw [List.length_take]; omega)]
        have hn : hdA true (H.take k) = none := by
          rw [← hH]
          exact hdA_part _ true k (rows_ok hr h3) (fun _ => by simp) (by omega)
        rw [e, hn]
        simp only
        rw [if_pos (by rw [List.length_take]; omega)]
      · have e : ((H ++ body).take k) = H ++ body.take (k - H.length) := by rw [List.take_append, List.take_of_length_le (by omega)]
        have e2 : (H ++ body.take (k - H.length)).take 8192 = H ++ (body.take (k - H.length)).take (8192 - H.length) := by rw [List.take_append, List.take_of_length_le (by omega)]
        have hd : hdA true (H ++ (body.take (k - H.length)).take (8192 - H.length)) = some (row :: (fs.map fdR ++ [clR body.length]), H.length) := by
          rw [← hH]
          unfold headR
          rw [List.append_assoc, List.cons_append, List.cons_append, List.nil_append, hdA_ends _ true _ (rows_ok hr h3) (fun _ => by simp)]
          simp
        rw [e, e2, hd]
        simp only
        rw [hx, fields_pr h3 (by omega) (by omega)]
        simp only
        rw [List.length_append] at hk
        rw [if_pos (by rw [List.length_append, List.length_take]; omega)]
/-- the first rows -/
theorem firstQ_pr {m t : Row} (h : asked m t = true) : firstQ (m ++ 32 :: (t ++ 32 :: verS)) = some (m, t) ∧ ((13 : UInt8) ∉ (m ++ 32 :: (t ++ 32 :: verS)) ∧ (m ++ 32 :: (t ++ 32 :: verS)) ≠ []) := by
  have h' := h
  unfold asked at h'
  simp only [Bool.and_eq_true, decide_eq_true_eq] at h'
  obtain ⟨⟨h1, h2⟩, h3, h4⟩ := h'
  constructor
  · unfold firstQ
    rw [cutB_at _ (rng_no h2 (by decide) (by decide)), Option.bind_some]
    simp only
    rw [cutB_at _ (rng_no h4 (by decide) (by decide)), Option.bind_some]
    simp only
    rw [if_pos ⟨h, trivial⟩]
  · refine ⟨fun hm => ?_, by simp⟩
    rcases List.mem_append.1 hm with hm | hm
    · exact rng_no h2 (by decide) (by decide) hm
    · rcases List.mem_cons.1 hm with hm | hm
      · revert hm; decide
      · rcases List.mem_append.1 hm with hm | hm
        · exact rng_no h4 (by decide) (by decide) hm
        · revert hm; decide
theorem dec_three : ∀ n : Fin 600, 100 ≤ n.val → (decDigits n.val).length = 3 ∧ (49 ≤ ((decDigits n.val).getD 0 0).toNat ∧ ((decDigits n.val).getD 0 0).toNat ≤ 53) ∧ 100 * (((decDigits n.val).getD 0 0).toNat - 48) + 10 * (((decDigits n.val).getD 1 0).toNat - 48) + (((decDigits n.val).getD 2 0).toNat - 48) = n.val := by
  have key : ∀ n : Fin 600, 100 ≤ n.val → decDigits n.val = [UInt8.ofNat (48 + n.val / 100), UInt8.ofNat (48 + n.val / 10 % 10), UInt8.ofNat (48 + n.val % 10)] := fun n h => by
    have h6 := n.isLt
    rw [Ch.dec_big (by omega), Ch.dec_big (u := n.val / 10) (by omega), Ch.dec_small (u := n.val / 10 / 10) (by omega), show n.val / 10 / 10 = n.val / 100 by omega]; rfl
  intro n h
  have h6 := n.isLt
  rw [key n h]
  have e0 := Ch.digit_val (n.val / 100) (by omega)
  have e1 := Ch.digit_val (n.val / 10 % 10) (by omega)
  have e2 := Ch.digit_val (n.val % 10) (by omega)
  refine ⟨rfl, ?_, ?_⟩
  · show 49 ≤ (UInt8.ofNat (48 + n.val / 100)).toNat ∧ (UInt8.ofNat (48 + n.val / 100)).toNat ≤ 53
    rw [e0]; omega
  · show 100 * ((UInt8.ofNat (48 + n.val / 100)).toNat - 48) + 10 * ((UInt8.ofNat (48 + n.val / 10 % 10)).toNat - 48) + ((UInt8.ofNat (48 + n.val % 10)).toNat - 48) = n.val
    rw [e0, e1, e2]; omega
theorem firstA_pr {n : Nat} {why : Row} (h : 100 ≤ n ∧ n ≤ 599) (hw : rng 32 126 false why = true) : firstA (verS ++ 32 :: (decDigits n ++ 32 :: why)) = some n ∧ ((13 : UInt8) ∉ (verS ++ 32 :: (decDigits n ++ 32 :: why)) ∧ (verS ++ 32 :: (decDigits n ++ 32 :: why)) ≠ []) := by
  obtain ⟨d1, d2, d3⟩ := dec_three ⟨n, by omega⟩ h.1
  have hd : (32 : UInt8) ∉ decDigits n := fun hm => by have := dec_bytes n _ hm; revert this; decide
  have hr : rng 48 57 false (decDigits n) = true := List.all_eq_true.2 fun x hx => by
    have := dec_bytes n x hx
    simp only [Bool.or_eq_true, decide_eq_true_eq]
    left; exact this
  constructor
  · unfold firstA
    rw [cutB_at _ (by decide), Option.bind_some]
    simp only
    rw [cutB_at _ hd, Option.bind_some]
    simp only
    rw [if_pos ⟨trivial, d1, hr, d2, hw⟩, d3]
  · refine ⟨fun hm => ?_, by simp [verS]⟩
    rcases List.mem_append.1 hm with hm | hm
    · revert hm; decide
    · rcases List.mem_cons.1 hm with hm | hm
      · revert hm; decide
      · rcases List.mem_append.1 hm with hm | hm
        · have := dec_bytes n _ hm; revert this; decide
        · rcases List.mem_cons.1 hm with hm | hm
          · revert hm; decide
          · exact rng_no hw (by decide) (by decide) hm
end Go.Proofs.YtgpkkdimafmehaaDoor.Ht
