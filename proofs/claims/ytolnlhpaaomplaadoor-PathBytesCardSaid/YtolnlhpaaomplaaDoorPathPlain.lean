/-
  PLAIN LAWS OF LAYER path: a segment written ('seg'), read ('rdS', 'textS'), which texts have one ('fits'), a path made ('ofP') and read ('parseP'). Nothing of the program is run here.
-/
import Derived.Test.YtolnlhpaaomplaaDoorCharPlain
set_option linter.unusedVariables false
namespace Go.Proofs.YtolnlhpaaomplaaDoor.Pa
abbrev Row := List UInt8

/-- may a byte stand as it is -/
def bare (c : UInt8) : Bool := decide (97 ≤ c.toNat ∧ c.toNat ≤ 122 ∨ 65 ≤ c.toNat ∧ c.toNat ≤ 90 ∨ 48 ≤ c.toNat ∧ c.toNat ≤ 57 ∨ c = 45 ∨ c = 46 ∨ c = 95 ∨ c = 126)
/-- a digit of sixteen; 16: none -/
def hexv (c : UInt8) : Nat :=
  if 48 ≤ c.toNat ∧ c.toNat ≤ 57 then c.toNat - 48 else if 65 ≤ c.toNat ∧ c.toNat ≤ 70 then c.toNat - 65 + 10 else if 97 ≤ c.toNat ∧ c.toNat ≤ 102 then c.toNat - 97 + 10 else 16
/-- the digits, great and small -/
def hexU : Row := [48, 49, 50, 51, 52, 53, 54, 55, 56, 57, 65, 66, 67, 68, 69, 70]
def hexL : Row := [48, 49, 50, 51, 52, 53, 54, 55, 56, 57, 97, 98, 99, 100, 101, 102]
/-- an escape, by these digits -/
def escH (h : Row) (c : UInt8) : Row := [37, h.getD (c.toNat / 16) 0, h.getD (c.toNat % 16) 0]
def escB (c : UInt8) : Row := if bare c = true then [c] else escH hexU c
def seg (t : Row) : Row := t.flatMap escB
def fits (t : Row) : Bool := Ch.valid t && (decide (0 < t.length ∧ t.length < 65) && decide (t ≠ [46] ∧ t ≠ [46, 46]))
/-- a segment's bytes -/
def rdS : Row → Option Row
  | [] => some []
  | [c] => if bare c = true then some [c] else none
  | [c, d] => if bare c = true ∧ bare d = true then some [c, d] else none
  | c :: d :: e :: t => if c = 37 then (if hexv d < 16 ∧ hexv e < 16 then (rdS t).map (UInt8.ofNat (16 * hexv d + hexv e) :: ·) else none) else if bare c = true then (rdS (d :: e :: t)).map (c :: ·) else none
theorem bare_pct : bare 37 = false := by decide
theorem rdS_bare (c : UInt8) (t : Row) (h : bare c = true) : rdS (c :: t) = (rdS t).map (c :: ·) := by
  have hc : c ≠ 37 := fun e => by rw [e] at h; revert h; decide
  match t with
  | [] => simp [rdS, h]
  | [d] =>
    by_cases hd : bare d = true <;> simp [rdS, h, hd]
  | d :: e :: t => rw [rdS, if_neg hc, if_pos h]
theorem rdS_no (c : UInt8) (t : Row) (h : bare c = false) (hc : c ≠ 37) : rdS (c :: t) = none := by
  match t with
  | [] => simp [rdS, h]
  | [d] => simp [rdS, h]
  | d :: e :: t => rw [rdS, if_neg hc, if_neg (by simp [h])]
theorem rdS_esc (d e : UInt8) (t : Row) (h : hexv d < 16) (h' : hexv e < 16) : rdS (37 :: d :: e :: t) = (rdS t).map (UInt8.ofNat (16 * hexv d + hexv e) :: ·) := by
  rw [rdS, if_pos rfl, if_pos ⟨h, h'⟩]
theorem rdS_bad (d e : UInt8) (t : Row) (h : ¬ (hexv d < 16 ∧ hexv e < 16)) : rdS (37 :: d :: e :: t) = none := by
  rw [rdS, if_pos rfl, if_neg h]
theorem rdS_short (t : Row) (h : t.length < 2) : rdS (37 :: t) = none := by
  match t, h with
  | [], _ => simp [rdS, bare_pct]
  | [d], _ => simp [rdS, bare_pct]
theorem hexv_U : ∀ n : Fin 16, hexv (hexU.getD n.val 0) = n.val := by decide
theorem hexv_L : ∀ n : Fin 16, hexv (hexL.getD n.val 0) = n.val := by decide
theorem rdS_escH (h : Row) (hh : ∀ n : Fin 16, hexv (h.getD n.val 0) = n.val) (c : UInt8) (t : Row) : rdS (escH h c ++ t) = (rdS t).map (c :: ·) := by
  have h1 := hh ⟨c.toNat / 16, by have := c.toNat_lt; omega⟩
  have h2 := hh ⟨c.toNat % 16, by omega⟩
  simp only at h1 h2
  show rdS (37 :: _ :: _ :: t) = _
  rw [rdS_esc _ _ _ (by rw [h1]; have := c.toNat_lt; omega) (by rw [h2]; omega), h1, h2]
  rw [show UInt8.ofNat (16 * (c.toNat / 16) + c.toNat % 16) = c by rw [show 16 * (c.toNat / 16) + c.toNat % 16 = c.toNat by omega]; exact UInt8.ofNat_toNat]
theorem rdS_escB (c : UInt8) (t : Row) : rdS (escB c ++ t) = (rdS t).map (c :: ·) := by
  unfold escB
  by_cases h : bare c = true
  · rw [if_pos h]; exact rdS_bare c t h
  · rw [if_neg h]; exact rdS_escH hexU hexv_U c t
theorem rdS_seg : ∀ (t u : Row), rdS (seg t ++ u) = (rdS u).map (t ++ ·)
  | [], u => by simp [seg]
  | c :: t, u => by
    have e : seg (c :: t) ++ u = escB c ++ (seg t ++ u) := by simp [seg]
    rw [e, rdS_escB, rdS_seg t u]
    cases rdS u <;> rfl
/-- every byte escaped -/
def escA (h : Row) (t : Row) : Row := t.flatMap (escH h)
theorem rdS_escA (h : Row) (hh : ∀ n : Fin 16, hexv (h.getD n.val 0) = n.val) : ∀ (t : Row), rdS (escA h t) = some t
  | [] => rfl
  | c :: t => by
    have e : escA h (c :: t) = escH h c ++ escA h t := by simp [escA]
    rw [e, rdS_escH h hh, rdS_escA h hh t]; rfl
/-! ### no mark in a segment -/
theorem hexU_no : ∀ n : Fin 16, hexU.getD n.val 0 ≠ 47 := by decide
theorem hexL_no : ∀ n : Fin 16, hexL.getD n.val 0 ≠ 47 := by decide
theorem escH_no (h : Row) (hh : ∀ n : Fin 16, h.getD n.val 0 ≠ 47) (c : UInt8) : ∀ x ∈ escH h c, x ≠ 47 := fun x hx => by
  have h1 := hh ⟨c.toNat / 16, by have := c.toNat_lt; omega⟩
  have h2 := hh ⟨c.toNat % 16, by omega⟩
  simp only at h1 h2
  unfold escH at hx
  simp only [List.mem_cons, List.not_mem_nil, or_false] at hx
  rcases hx with rfl | rfl | rfl
  · decide
  · exact h1
  · exact h2
theorem seg_no (t : Row) : ∀ x ∈ seg t, x ≠ 47 := fun x hx => by
  unfold seg at hx
  obtain ⟨c, _, hc⟩ := List.mem_flatMap.1 hx
  unfold escB at hc
  by_cases h : bare c = true
  · rw [if_pos h] at hc
    rw [List.mem_singleton.1 hc]
    intro e; rw [e] at h; revert h; decide
  · rw [if_neg h] at hc
    exact escH_no hexU hexU_no c x hc
theorem escA_no (h : Row) (hh : ∀ n : Fin 16, h.getD n.val 0 ≠ 47) (t : Row) : ∀ x ∈ escA h t, x ≠ 47 := fun x hx => by
  unfold escA at hx
  obtain ⟨c, _, hc⟩ := List.mem_flatMap.1 hx
  exact escH_no h hh c x hc
theorem seg_nil : seg [] = [] := rfl
theorem seg_ne {t : Row} (h : t ≠ []) : seg t ≠ [] := fun e => by
  have := rdS_seg t []
  rw [e] at this
  simp [rdS] at this
  exact h this
theorem seg_len : ∀ (t : Row), (seg t).length ≤ 3 * t.length
  | [] => by simp [seg]
  | c :: t => by
    have e : seg (c :: t) = escB c ++ seg t := by simp [seg]
    have := seg_len t
    have h : (escB c).length ≤ 3 := by unfold escB; split <;> simp [escH]
    rw [e, List.length_append, List.length_cons]; omega
/-! ### paths -/
def textS (s : Row) : Option Row := (rdS s).bind fun b => if fits b = true then some b else none
def ofP (col name : Row) : Option Row :=
  if col = [] ∧ name = [] then some [47] else if fits col = true ∧ (name = [] ∨ fits name = true) then some (47 :: (seg col ++ 47 :: seg name)) else none
/-- what stands in front of the first mark, and behind it -/
def cutS : Row → Option (Row × Row)
  | [] => none
  | c :: t => if c = 47 then some ([], t) else (cutS t).map fun p => (c :: p.1, p.2)
def parse2 (p : Row × Row) : Option (Row × Row) := (textS p.1).bind fun a => if p.2 = [] then some (a, []) else (textS p.2).map fun b => (a, b)
def parseP : Row → Option (Row × Row)
  | [] => none
  | c :: t => if c = 47 then (if t = [] then some ([], []) else (cutS t).bind parse2) else none
theorem parseP_mark (t : Row) : parseP (47 :: t) = if t = [] then some ([], []) else (cutS t).bind parse2 := by rw [parseP, if_pos rfl]
theorem cutS_no : ∀ (a b : Row), (∀ x ∈ a, x ≠ 47) → cutS (a ++ 47 :: b) = some (a, b)
  | [], b, _ => by simp [cutS]
  | c :: a, b, h => by
    show cutS (c :: (a ++ 47 :: b)) = _
    rw [cutS, if_neg (h c (by simp)), cutS_no a b (fun x hx => h x (by simp [hx]))]; rfl
theorem cutS_none : ∀ (a : Row), (∀ x ∈ a, x ≠ 47) → cutS a = none
  | [], _ => rfl
  | c :: a, h => by rw [cutS, if_neg (h c (by simp)), cutS_none a (fun x hx => h x (by simp [hx]))]; rfl
theorem fits_ne {t : Row} (h : fits t = true) : t ≠ [] := fun e => by rw [e] at h; revert h; decide
theorem textS_seg {t : Row} (h : fits t = true) : textS (seg t) = some t := by
  have := rdS_seg t []
  rw [List.append_nil] at this
  unfold textS
  rw [this]
  simp [rdS, h]
/-- what is made is read again -/
theorem parse_of {col name p : Row} (h : ofP col name = some p) : parseP p = some (col, name) := by
  unfold ofP at h
  split at h
  · rename_i hc
    rw [← Option.some.inj h, hc.1, hc.2]; rfl
  · split at h
    · rename_i hc
      rw [← Option.some.inj h]
      rw [parseP_mark, if_neg (by simp), cutS_no _ _ (seg_no col)]
      show parse2 (seg col, seg name) = _
      unfold parse2
      simp only [textS_seg hc.1, Option.bind_some]
      by_cases hn : name = []
      · rw [hn, seg_nil, if_pos rfl]
      · rw [if_neg (seg_ne hn), textS_seg (hc.2.resolve_left hn)]; rfl
    · cases h
/-- unlike texts, unlike paths -/
theorem of_apart {a b c d p q : Row} (h : ofP a b = some p) (h' : ofP c d = some q) : p = q ↔ (a = c ∧ b = d) := by
  constructor
  · intro e
    have h1 := parse_of h
    rw [e, parse_of h'] at h1
    have := Option.some.inj h1
    injection this with e1 e2
    exact ⟨e1.symm, e2.symm⟩
  · rintro ⟨rfl, rfl⟩
    rw [h] at h'
    exact Option.some.inj h'
/-- a card's path begins with its collection's -/
theorem of_head {a b p : Row} (h : ofP a b = some p) (ha : a ≠ []) : ∃ c, ofP a [] = some c ∧ c.length ≤ p.length ∧ p.take c.length = c := by
  unfold ofP at h ⊢
  rw [if_neg (fun e => ha e.1)] at h
  rw [if_neg (fun e => ha e.1)]
  split at h
  · rename_i hc
    refine ⟨47 :: (seg a ++ 47 :: seg []), by rw [if_pos ⟨hc.1, .inl rfl⟩], ?_, ?_⟩
    · rw [← Option.some.inj h, seg_nil]; simp
    · rw [← Option.some.inj h, seg_nil, show (47 :: (seg a ++ 47 :: seg b) : Row) = (47 :: (seg a ++ [47])) ++ seg b by simp]
      exact List.take_left' rfl
  · cases h
/-- every byte escaped: the same -/
theorem parse_escA (h : Row) (hh : ∀ n : Fin 16, hexv (h.getD n.val 0) = n.val) (hn : ∀ n : Fin 16, h.getD n.val 0 ≠ 47) {t : Row} (hf : fits t = true) :
    parseP (47 :: (escA h t ++ [47])) = some (t, []) ∧ parseP (47 :: (escA h t ++ 47 :: escA h t)) = some (t, t) := by
  have ht : textS (escA h t) = some t := by unfold textS; rw [rdS_escA h hh]; simp [hf]
  have hne : escA h t ≠ [] := fun e => by
    have := rdS_escA h hh t
    rw [e] at this
    exact fits_ne hf (Option.some.inj this).symm
  constructor
  · rw [parseP_mark, if_neg (by simp), cutS_no _ _ (escA_no h hn t)]
    show parse2 (escA h t, []) = _
    unfold parse2
    simp [ht]
  · rw [parseP_mark, if_neg (by simp), cutS_no _ _ (escA_no h hn t)]
    show parse2 (escA h t, escA h t) = _
    unfold parse2
    simp only [ht, Option.bind_some]
    rw [if_neg hne]; rfl
end Go.Proofs.YtolnlhpaaomplaaDoor.Pa
