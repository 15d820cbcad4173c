/-
  PLAIN LAWS OF LAYER http: a head cut into rows, fields, a request and a response read and printed. Nothing of the program is run here.
-/
import Derived.Test.YtljacnedlgnldaaDoorCharDecPlain
set_option linter.unusedVariables false
namespace Go.Proofs.YtljacnedlgnldaaDoor.Ht
abbrev Row := List UInt8

/-! ### bytes -/
def rng (lo hi : Nat) (tab : Bool) (s : Row) : Bool := s.all fun c => decide (lo ≤ c.toNat ∧ c.toNat ≤ hi) || (tab && c == 9)
def nmC (c : UInt8) : Bool := decide (97 ≤ c.toNat ∧ c.toNat ≤ 122 ∨ 65 ≤ c.toNat ∧ c.toNat ≤ 90 ∨ 48 ≤ c.toNat ∧ c.toNat ≤ 57 ∨ c.toNat = 45)
def nmB (s : Row) : Bool := s.all nmC && decide (0 < s.length ∧ s.length < 65)
def bl (c : UInt8) : Bool := c == 32 || c == 9
def trim (s : Row) : Row := ((s.dropWhile bl).reverse.dropWhile bl).reverse
/-- parted at the first c -/
def cutB (c : UInt8) : Row → Option (Row × Row)
  | [] => none
  | x :: r => if x = c then some ([], r) else (cutB c r).map fun p => (x :: p.1, p.2)
theorem cutB_at {c : UInt8} : ∀ {a : Row} (r : Row), c ∉ a → cutB c (a ++ c :: r) = some (a, r)
  | [], r, _ => by simp [cutB]
  | x :: a, r, h => by
    have : x ≠ c := fun e => h (by simp [e])
    show cutB c (x :: (a ++ c :: r)) = _
    rw [cutB, if_neg this, cutB_at r (fun hm => h (by simp [hm]))]; rfl
/-- parted at the first end of a row -/
def cutR : Row → Option (Row × Row)
  | [] => none
  | [_] => none
  | x :: y :: r => if x = 13 ∧ y = 10 then some ([], r) else (cutR (y :: r)).map fun p => (x :: p.1, p.2)
theorem cutR_at : ∀ {a : Row} (r : Row), (13 : UInt8) ∉ a → cutR (a ++ 13 :: 10 :: r) = some (a, r)
  | [], r, _ => by simp [cutR]
  | [x], r, h => by
    have : x ≠ 13 := fun e => h (by simp [e])
    show cutR (x :: 13 :: 10 :: r) = _
    rw [cutR, if_neg (fun e => this e.1), cutR, if_pos ⟨rfl, rfl⟩]; rfl
  | x :: y :: a, r, h => by
    have : x ≠ 13 := fun e => h (by simp [e])
    have ih := cutR_at (a := y :: a) r (fun hm => h (by simp at hm ⊢; exact .inr hm))
    show cutR (x :: y :: (a ++ 13 :: 10 :: r)) = _
    rw [cutR, if_neg (fun e => this e.1), show cutR (y :: (a ++ 13 :: 10 :: r)) = _ from ih]; rfl
theorem cutR_some : ∀ {l a r : Row}, cutR l = some (a, r) → l = a ++ 13 :: 10 :: r
  | [], _, _, h => by simp [cutR] at h
  | [_], _, _, h => by simp [cutR] at h
  | x :: y :: l, a, r, h => by
    rw [cutR] at h
    split at h
    · rename_i hc
      simp at h
      obtain ⟨rfl, rfl⟩ := h
      rw [hc.1, hc.2]; rfl
    · cases hf : cutR (y :: l) with
      | none => rw [hf] at h; cases h
      | some q =>
        rw [hf] at h
        simp at h
        obtain ⟨rfl, rfl⟩ := h
        have := cutR_some (l := y :: l) (a := q.1) (r := q.2) hf
        rw [this]; rfl
/-- no end of a row in a front part of one -/
theorem cutR_none : ∀ {a : Row}, (13 : UInt8) ∉ a → cutR a = none ∧ cutR (a ++ [13]) = none
  | [], _ => ⟨rfl, rfl⟩
  | [x], h => by
    have : x ≠ 13 := fun e => h (by simp [e])
    refine ⟨rfl, ?_⟩
    show cutR [x, 13] = none
    rw [cutR, if_neg (fun e => this e.1)]; rfl
  | x :: y :: a, h => by
    have : x ≠ 13 := fun e => h (by simp [e])
    obtain ⟨h1, h2⟩ := cutR_none (a := y :: a) (fun hm => h (by simp at hm ⊢; exact .inr hm))
    constructor
    · rw [cutR, if_neg (fun e => this e.1), h1]; rfl
    · show cutR (x :: y :: (a ++ [13])) = none
      rw [cutR, if_neg (fun e => this e.1), show cutR (y :: (a ++ [13])) = none from h2]; rfl

/-! ### heads -/
/-- rows up to the first empty one behind the first; how many bytes -/
def hd : Nat → Bool → Row → Option (List Row × Nat)
  | 0, _, _ => none
  | n + 1, f, t => (cutR t).bind fun p => if f = false ∧ p.1 = [] then some ([], 2) else (hd n false p.2).map fun q => (p.1 :: q.1, p.1.length + 2 + q.2)
theorem cutR_len {l a r : Row} (h : cutR l = some (a, r)) : r.length < l.length := by
  have := congrArg List.length (cutR_some h)
  simp at this; omega
theorem hd_fuel : ∀ (n m : Nat) (f : Bool) (t : Row), t.length < n → t.length < m → hd n f t = hd m f t
  | 0, _, _, _, h, _ => by omega
  | _ + 1, 0, _, _, _, h => by omega
  | n + 1, m + 1, f, t, h1, h2 => by
    unfold hd
    cases hc : cutR t with
    | none => rfl
    | some p =>
      obtain ⟨a, r⟩ := p
      have := cutR_len hc
      simp only [Option.bind_some]
      split
      · rfl
      · rw [hd_fuel n m false r (by omega) (by omega)]
def hdA (f : Bool) (t : Row) : Option (List Row × Nat) := hd (t.length + 1) f t
theorem hdA_cut {f : Bool} {a r : Row} (h : (13 : UInt8) ∉ a) (hf : f = true ∨ a ≠ []) : hdA f (a ++ 13 :: 10 :: r) = (hdA false r).map fun q => (a :: q.1, a.length + 2 + q.2) := by
  unfold hdA
  conv => lhs; unfold hd
  rw [cutR_at r h, Option.bind_some]
  simp only
  rw [if_neg (fun e => by
    rcases hf with h | h
    · rw [h] at e; cases e.1
    · exact h e.2)]
  rw [hd_fuel _ (r.length + 1) false r (by simp; omega) (by omega)]
theorem hdA_end (r : Row) : hdA false (13 :: 10 :: r) = some ([], 2) := by
  unfold hdA hd
  rw [show cutR (13 :: 10 :: r) = some ([], r) from by simp [cutR], Option.bind_some]
  simp
theorem hdA_none {f : Bool} {a : Row} (h : cutR a = none) : hdA f a = none := by
  unfold hdA hd
  rw [h]; rfl
/-- rows, each with its end -/
def ends : List Row → Row
  | [] => []
  | a :: rs => a ++ 13 :: 10 :: ends rs
theorem ends_append : ∀ (a b : List Row), ends (a ++ b) = ends a ++ ends b
  | [], _ => rfl
  | x :: a, b => by
    show x ++ 13 :: 10 :: ends (a ++ b) = _
    rw [ends_append a b]; simp [ends]
theorem ends_len : ∀ (rs : List Row), 2 * rs.length ≤ (ends rs).length
  | [] => Nat.le_refl _
  | a :: rs => by
    have := ends_len rs
    simp only [ends, List.length_append, List.length_cons]; omega
/-- a whole head is read, whatever is behind it -/
theorem hdA_ends : ∀ (rs : List Row) (f : Bool) (r : Row), (∀ a ∈ rs, (13 : UInt8) ∉ a ∧ a ≠ []) → (f = true → rs ≠ []) → hdA f (ends rs ++ 13 :: 10 :: r) = some (rs, (ends rs).length + 2)
  | [], f, r, _, hf => by
    cases f with
    | true => exact absurd rfl (hf rfl)
    | false => exact hdA_end r
  | a :: rs, f, r, h, _ => by
    have ha := h a (by simp)
    have ih := hdA_ends rs false r (fun b hb => h b (by simp [hb])) (fun e => by cases e)
    have e : ends (a :: rs) ++ 13 :: 10 :: r = a ++ 13 :: 10 :: (ends rs ++ 13 :: 10 :: r) := by simp [ends]
    rw [e, hdA_cut ha.1 (.inr ha.2), ih]
    simp [ends]; omega
/-- a head that isn't whole isn't read -/
theorem hdA_part : ∀ (rs : List Row) (f : Bool) (k : Nat), (∀ a ∈ rs, (13 : UInt8) ∉ a ∧ a ≠ []) → (f = true → rs ≠ []) → k < (ends rs).length + 2 → hdA f ((ends rs ++ [13, 10]).take k) = none
  | [], f, k, _, hf, hk => by
    match k, hk with
    | 0, _ => exact hdA_none rfl
    | 1, _ => exact hdA_none rfl
    | k + 2, hk => exact absurd hk (by simp [ends])
  | a :: rs, f, k, h, _, hk => by
    have ha := h a (by simp)
    have e : ends (a :: rs) ++ [13, 10] = a ++ 13 :: 10 :: (ends rs ++ [13, 10]) := by simp [ends]
    rw [e]
    by_cases h1 : k ≤ a.length
    · rw [List.take_append_of_le_length h1]
      exact hdA_none (cutR_none (fun hm => ha.1 (List.mem_of_mem_take hm))).1
    · obtain ⟨j, hj⟩ : ∃ j, k = a.length + 1 + j := ⟨k - a.length - 1, by omega⟩
      have e2 : (a ++ 13 :: 10 :: (ends rs ++ [13, 10])).take k = a ++ 13 :: (10 :: (ends rs ++ [13, 10])).take j := by
        rw [hj, List.take_append, List.take_of_length_le (by omega), show a.length + 1 + j - a.length = j + 1 by omega]; rfl
      rw [e2]
      cases j with
      | zero => exact hdA_none (cutR_none ha.1).2
      | succ j =>
        have ih := hdA_part rs false j (fun b hb => h b (by simp [hb])) (fun e => by cases e) (by simp only [ends, List.length_append, List.length_cons] at hk; omega)
        show hdA f (a ++ 13 :: 10 :: (ends rs ++ [13, 10]).take j) = none
        rw [hdA_cut ha.1 (.inr ha.2), ih]; rfl
end Go.Proofs.YtljacnedlgnldaaDoor.Ht
