/-
  PLAIN LAWS OF LAYER token: tokens as they are written ('prT') and read ('paT'); one form alone; unlike tokens, unlike texts. Nothing of the program is run here.
-/
import Derived.Test.YtljacnedlgnldaaDoorCharDecPlain
import Derived.Test.YtljacnedlgnldaaDoorHttpPlain
set_option linter.unusedVariables false
namespace Go.Proofs.YtljacnedlgnldaaDoor.To
open Go.Lib Ch

abbrev Row := List UInt8
def most : Nat := 4611686018427387904
/-- urn:calepin: -/
def pre : Row := [117, 114, 110, 58, 99, 97, 108, 101, 112, 105, 110, 58]

/-! ### what is read as a number is written so -/
theorem digit_back {c : UInt8} (h : isD c = true) : UInt8.ofNat (48 + (c.toNat - 48)) = c := by
  have := of_decide_eq_true h
  rw [show 48 + (c.toNat - 48) = c.toNat by omega]
  exact UInt8.ofNat_toNat
theorem numV_pos {q : Row} (h0 : q ≠ []) (hd : q.all isD = true) (hl : (q.getD 0 0).toNat ≠ 48) : 1 ≤ numV q := by
  match q, h0 with
  | c :: r, _ =>
    have hc := of_decide_eq_true (List.all_eq_true.1 hd c (by simp))
    have hc2 : c.toNat ≠ 48 := hl
    rw [numV_cons]
    have : 1 ≤ (c.toNat - 48) * 10 ^ r.length := Nat.mul_pos (by omega) (Nat.pow_pos (by decide))
    omega
theorem dec_num : ∀ (n : Nat) (l : Row), l.length = n → l ≠ [] → lead0 l = false → l.all isD = true → decDigits (numV l) = l
  | 0, l, hn, h0, _, _ => absurd (List.eq_nil_of_length_eq_zero hn) h0
  | n + 1, l, hn, h0, h1, h2 => by
    have e := List.dropLast_concat_getLast h0
    generalize l.dropLast = q at e
    generalize l.getLast h0 = c at e
    subst e
    rw [List.all_append, Bool.and_eq_true] at h2
    have hc : isD c = true := by simpa using h2.2
    have hc2 := of_decide_eq_true hc
    rw [numV_snoc]
    by_cases hq : q = []
    · subst hq
      have hz : numV [] = 0 := rfl
      rw [hz, dec_small (by omega)]
      simp only [Nat.mul_zero, Nat.zero_add, List.nil_append]
      rw [digit_back hc]
    · have hl : (q.getD 0 0).toNat ≠ 48 := by
        intro hh
        have h3 := of_decide_eq_false h1
        apply h3
        refine ⟨by have := List.length_pos_iff.2 hq; simp; omega, ?_⟩
        match q, hq with
        | x :: r, _ => exact hh
      have hv := numV_pos hq h2.1 hl
      have hq1 : lead0 q = false := decide_eq_false fun hh => hl hh.2
      have ih := dec_num n q (by simp at hn; exact hn) hq hq1 h2.1
      rw [dec_big (by omega), show (10 * numV q + (c.toNat - 48)) / 10 = numV q by omega, show (10 * numV q + (c.toNat - 48)) % 10 = c.toNat - 48 by omega, ih, digit_back hc]
theorem num_form {l : Row} {m n : Nat} (h : numS l m = (n, true)) : l = decDigits n ∧ n ≤ m := by
  unfold numS at h
  split at h
  · rename_i hh
    obtain ⟨hok, hle⟩ := hh
    have hn := (Prod.mk.inj h).1
    subst hn
    unfold numOk at hok
    simp only [Bool.and_eq_true, Bool.not_eq_true'] at hok
    obtain ⟨⟨h1, h2⟩, h3⟩ := hok
    exact ⟨(dec_num _ l rfl (fun e => by rw [e] at h1; cases h1) h2 h3).symm, hle⟩
  · cases h
theorem num_dec {n m : Nat} (h : n ≤ m) : numS (decDigits n) m = (n, true) := by rw [numS_dec, if_pos h]

/-! ### tokens -/
def right (b a : Nat) : Prop := 1 ≤ b ∧ b ≤ a ∧ a ≤ most
instance (b a : Nat) : Decidable (right b a) := inferInstanceAs (Decidable (_ ∧ _))
def txtT (b a : Nat) : Row := pre ++ (decDigits b ++ 46 :: decDigits a)
/-- as it is written: empty, if it is none -/
def prT (b a : Int) : Row := if 1 ≤ b ∧ b ≤ a ∧ a ≤ (most : Int) then txtT b.toNat a.toNat else []
/-- two numbers with a full stop between, a right token -/
def two (r : Row) : Option (Nat × Nat) := match Ht.cutB 46 r with
  | none => none
  | some (x, y) => if (numS x most).2 = true ∧ (numS y most).2 = true ∧ right (numS x most).1 (numS y most).1 then some ((numS x most).1, (numS y most).1) else none
def paT (l : Row) : Option (Nat × Nat) := if l.take 12 = pre then two (l.drop 12) else none

theorem dec_dot (n : Nat) : (46 : UInt8) ∉ decDigits n := fun hm => by
  have := of_decide_eq_true (List.all_eq_true.1 (all_dec n) 46 hm)
  revert this; decide
theorem cut_some {c : UInt8} : ∀ {l a r : Row}, Ht.cutB c l = some (a, r) → l = a ++ c :: r ∧ c ∉ a
  | [], _, _, h => by simp [Ht.cutB] at h
  | x :: l, a, r, h => by
    rw [Ht.cutB] at h
    split at h
    · rename_i hx
      simp at h
      obtain ⟨rfl, rfl⟩ := h
      rw [hx]; exact ⟨rfl, by simp⟩
    · rename_i hx
      cases hf : Ht.cutB c l with
      | none => rw [hf] at h; cases h
      | some q =>
        rw [hf] at h
        simp at h
        obtain ⟨rfl, rfl⟩ := h
        obtain ⟨h1, h2⟩ := cut_some (l := l) (a := q.1) (r := q.2) hf
        refine ⟨by conv => lhs; rw [h1]
                   rfl, ?_⟩
        simp only [List.mem_cons, not_or]
        exact ⟨fun e => hx e.symm, h2⟩
theorem take_pre (r : Row) : (pre ++ r).take 12 = pre := List.take_left' rfl
theorem drop_pre (r : Row) : (pre ++ r).drop 12 = r := List.drop_left' rfl
theorem two_txt {b a : Nat} (h : right b a) (more : Row) : two (decDigits b ++ 46 :: (decDigits a ++ more)) = if (numS (decDigits a ++ more) most).2 = true ∧ right b (numS (decDigits a ++ more) most).1 then some (b, (numS (decDigits a ++ more) most).1) else none := by
  unfold two
  rw [Ht.cutB_at _ (dec_dot b)]
  simp only [num_dec (by unfold right at h; omega : b ≤ most), true_and]
/-- what is written is read -/
theorem pa_txt {b a : Nat} (h : right b a) : paT (txtT b a) = some (b, a) := by
  unfold paT txtT
  rw [take_pre, if_pos rfl, drop_pre]
  have := two_txt h []
  rw [List.append_nil, num_dec (by unfold right at h; omega : a ≤ most), if_pos ⟨rfl, h⟩] at this
  exact this
/-- a token has one form alone -/
theorem pa_form {l : Row} {b a : Nat} (h : paT l = some (b, a)) : right b a ∧ l = txtT b a := by
  unfold paT at h
  split at h
  · rename_i hp
    unfold two at h
    cases hc : Ht.cutB 46 (l.drop 12) with
    | none => rw [hc] at h; cases h
    | some q =>
      obtain ⟨x, y⟩ := q
      rw [hc] at h
      simp only at h
      split at h
      · rename_i hr
        obtain ⟨h1, h2, h3⟩ := hr
        obtain ⟨e1, e2⟩ := Prod.mk.inj (Option.some.inj h)
        subst e1
        subst e2
        refine ⟨h3, ?_⟩
        obtain ⟨hl, _⟩ := cut_some hc
        have hx := (num_form (l := x) (m := most) (n := (numS x most).1) (by rw [← h1])).1
        have hy := (num_form (l := y) (m := most) (n := (numS y most).1) (by rw [← h2])).1
        unfold txtT
        rw [← hx, ← hy, ← hl]
        conv => lhs; rw [← List.take_append_drop 12 l, hp]
      · cases h
  · cases h
theorem pr_some {b a : Int} (h : prT b a ≠ []) : 1 ≤ b ∧ b ≤ a ∧ a ≤ (most : Int) ∧ prT b a = txtT b.toNat a.toNat ∧ right b.toNat a.toNat := by
  unfold prT at h ⊢
  split at h
  · rename_i hr
    rw [if_pos hr]
    refine ⟨hr.1, hr.2.1, hr.2.2, rfl, ?_⟩
    unfold right
    unfold most at hr ⊢
    omega
  · exact absurd rfl h
theorem txt_ne (b a : Nat) : txtT b a ≠ [] := by unfold txtT pre; simp
theorem pa_nil : paT [] = none := by decide
/-- what is printed is parsed -/
theorem pa_pr (b a : Int) : (prT b a = [] ∧ ¬ (1 ≤ b ∧ b ≤ a ∧ a ≤ (most : Int))) ∨ (prT b a ≠ [] ∧ paT (prT b a) = some (b.toNat, a.toNat) ∧ (b.toNat : Int) = b ∧ (a.toNat : Int) = a) := by
  by_cases h : 1 ≤ b ∧ b ≤ a ∧ a ≤ (most : Int)
  · right
    have e : prT b a = txtT b.toNat a.toNat := by unfold prT; rw [if_pos h]
    have hne : prT b a ≠ [] := by rw [e]; exact txt_ne _ _
    obtain ⟨h1, h2, h3, _, hr⟩ := pr_some hne
    exact ⟨hne, by rw [e]; exact pa_txt hr, by omega, by omega⟩
  · left
    exact ⟨by unfold prT; rw [if_neg h], h⟩
/-- unlike tokens, unlike texts -/
theorem pr_inj {b a d c : Int} (h1 : prT b a ≠ []) (h2 : prT d c ≠ []) : prT b a = prT d c ↔ b = d ∧ a = c := by
  constructor
  · intro h
    rcases pa_pr b a with ⟨e, _⟩ | ⟨_, p1, q1, q2⟩
    · exact absurd e h1
    rcases pa_pr d c with ⟨e, _⟩ | ⟨_, p2, q3, q4⟩
    · exact absurd e h2
    rw [h, p2] at p1
    obtain ⟨e1, e2⟩ := Prod.mk.inj (Option.some.inj p1)
    omega
  · rintro ⟨rfl, rfl⟩; rfl
theorem dec_more {a m : Nat} {more : Row} (h : decDigits a ++ more = decDigits m) (hm : more ≠ []) : m ≠ a := by
  rintro rfl
  have := congrArg List.length h
  have h2 := List.length_pos_iff.2 hm
  simp at this
  exact hm this
/-- what is added to a token's text makes it none, or another one of that collection -/
theorem pa_more {b a : Int} (h : prT b a ≠ []) {more : Row} (hm : more ≠ []) : paT (prT b a ++ more) = none ∨ ∃ m : Nat, paT (prT b a ++ more) = some (b.toNat, m) ∧ (m : Int) ≠ a ∧ (b.toNat : Int) = b := by
  obtain ⟨h1, h2, h3, e, hr⟩ := pr_some h
  have e2 : prT b a ++ more = pre ++ (decDigits b.toNat ++ 46 :: (decDigits a.toNat ++ more)) := by rw [e]; unfold txtT; simp
  have e3 : paT (prT b a ++ more) = two (decDigits b.toNat ++ 46 :: (decDigits a.toNat ++ more)) := by
    rw [e2]
    unfold paT
    rw [take_pre, if_pos rfl, drop_pre]
  rw [e3, two_txt hr]
  split
  · rename_i hh
    right
    have hf := (num_form (l := decDigits a.toNat ++ more) (m := most) (n := (numS (decDigits a.toNat ++ more) most).1) (by rw [← hh.1])).1
    have := dec_more hf hm
    exact ⟨_, rfl, by omega, by omega⟩
  · left; rfl
end Go.Proofs.YtljacnedlgnldaaDoor.To
