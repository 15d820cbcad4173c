import Derived.Test.YthnnpnlapjlnoaaGreatDoorMg4
import Derived.Test.YthnnpnlapjlnoaaGreatDoorMg19
import Derived.Test.YthnnpnlapjlnoaaGreatDoorMg17
import Derived.Test.YthnnpnlapjlnoaaGreatDoorMg9
import Derived.Test.YthnnpnlapjlnoaaGreatDoorMg18
import Derived.Test.YthnnpnlapjlnoaaGreatDoorMg12
import Derived.Test.YthnnpnlapjlnoaaGreatDoorMg13
import Derived.Test.YthnnpnlapjlnoaaGreatDoorMg15
import Derived.Test.YthnnpnlapjlnoaaGreatDoorMg6
import Derived.Laws.EntriesVeiled

/-
  PLAIN LAWS OF LAYER fold, the second part: the size of a character, as many characters as fit, the rows of a folded line; what unfolds again.
-/
set_option linter.unusedVariables false
namespace Go.Proofs.YthnnpnlapjlnoaaGreatDoor.Fo
open Go.Lib

def sz (l : Row) : Nat := if (Ch.rune l).2 = 0 then 1 else (Ch.rune l).2
theorem rune_four (l : Row) : (Ch.rune l).2 ≤ 4 := by
  unfold Ch.rune
  by_cases h : l = []
  · rw [if_pos h]; decide
  · rw [if_neg h]
    generalize l.length = n
    have hb0 := (l.getD 0 0).toNat_lt
    generalize (l.getD 0 0).toNat = b0 at hb0 ⊢
    generalize (l.getD 1 0).toNat = b1
    generalize (l.getD 2 0).toNat = b2
    generalize (l.getD 3 0).toNat = b3
    by_cases c1 : b0 < 128
    · rw [Ch.runeN_one _ _ _ _ _ c1]; simp
    by_cases c2 : b0 < 192 ∨ 248 ≤ b0
    · rw [Ch.runeN_none _ _ _ _ _ (by omega)]; simp
    by_cases c3 : b0 < 224
    · rcases Ch.runeN_two n b0 b1 b2 b3 (by omega) c3 with h | h <;> simp [h]
    by_cases c4 : b0 < 240
    · rcases Ch.runeN_three n b0 b1 b2 b3 (by omega) c4 with h | h <;> simp [h]
    · rcases Ch.runeN_four n b0 b1 b2 b3 (by omega) (by omega) with h | h <;> simp [h]
theorem sz_bd (l : Row) : 1 ≤ sz l ∧ sz l ≤ 4 := by
  have := rune_four l
  unfold sz
  split <;> omega
theorem sz_len (l : Row) (h : l ≠ []) : sz l ≤ l.length := by
  have hp := Ch.pos_of_ne h
  unfold sz
  split
  · omega
  · exact (Ch.rune_tells h ‹_›).1
theorem sz_decode (l : Row) (h : l ≠ []) : (decodeL l).2 = sz l := by
  unfold sz
  rw [Ch.rune_eq l h, decodeL_N]
  unfold Ch.runeN
  have hw := decodeL_width l
  rw [decodeL_N] at hw
  generalize decodeN l.length (l.getD 0 0).toNat (l.getD 1 0).toNat (l.getD 2 0).toNat (l.getD 3 0).toNat = d at hw ⊢
  by_cases hd : d = (65533, 1)
  · rw [if_pos hd, hd]; rfl
  · rw [if_neg hd, if_neg (by omega)]
theorem sz_prefix (p q x : Row) (hp : p ≠ []) (hq : 4 ≤ p.length ∨ q = []) : sz (p ++ 13 :: x) = sz (p ++ q) := by
  have hne : p ++ q ≠ [] := by simp [hp]
  have hne2 : p ++ 13 :: x ≠ [] := by simp
  have hpl := Ch.pos_of_ne hp
  by_cases h0 : (Ch.rune (p ++ q)).2 = 0
  · have h1 : (Ch.rune (p ++ 13 :: x)).2 = 0 := by
      rcases Nat.eq_zero_or_pos (Ch.rune (p ++ 13 :: x)).2 with h | h
      · exact h
      · exfalso
        obtain ⟨hw, hc, _⟩ := Ch.rune_tells hne2 (by omega)
        have hk : (Ch.rune (p ++ 13 :: x)).2 ≤ p.length := by
          rcases Nat.lt_or_ge p.length (Ch.rune (p ++ 13 :: x)).2 with hlt | hge
          · have := hc p.length hpl hlt
            have e : (p ++ 13 :: x).getD p.length 0 = 13 := by simp [List.getD_eq_getElem?_getD]
            rw [e] at this
            exact absurd this (by unfold Ch.cont; decide)
          · exact hge
        have e := Ch.rune_take hne2 (by omega) hk
        rw [List.take_left] at e
        have e2 := Ch.rune_append q hp (by rw [e]; omega)
        rw [e2, e] at h0
        omega
    unfold sz
    rw [h0, h1]
  · have hk : (Ch.rune (p ++ q)).2 ≤ p.length := by
      rcases hq with hq | hq
      · have := rune_four (p ++ q); omega
      · subst hq
        have := (Ch.rune_tells hne h0).1
        simpa using this
    have e := Ch.rune_take hne h0 hk
    rw [List.take_left] at e
    have e2 := Ch.rune_append (13 :: x) hp (by rw [e]; exact h0)
    unfold sz
    rw [e2, e]

/-! ### as many as fit -/
def fitF : Nat → Row → Nat → Nat → Nat
  | 0, _, _, n => n
  | f + 1, l, room, n => if n < l.length then (if room < n + sz (l.drop n) then n else fitF f l room (n + sz (l.drop n))) else n
def fit (l : Row) (room : Nat) : Nat := fitF l.length l room 0
theorem fitF_more : ∀ (f g : Nat) (l : Row) (room n : Nat), l.length ≤ n + f → l.length ≤ n + g → fitF f l room n = fitF g l room n
  | 0, 0, _, _, _, _, _ => rfl
  | 0, g + 1, l, room, n, h, _ => by unfold fitF; rw [if_neg (by omega)]
  | f + 1, 0, l, room, n, _, h => by unfold fitF; rw [if_neg (by omega)]
  | f + 1, g + 1, l, room, n, hf, hg => by
    have hs := (sz_bd (l.drop n)).1
    unfold fitF
    by_cases h1 : n < l.length
    · rw [if_pos h1, if_pos h1]
      by_cases h2 : room < n + sz (l.drop n)
      · rw [if_pos h2, if_pos h2]
      · rw [if_neg h2, if_neg h2]
        exact fitF_more f g l room _ (by omega) (by omega)
    · rw [if_neg h1, if_neg h1]
theorem fitF_next (f : Nat) (l : Row) (room n : Nat) (h : l.length ≤ n + f) (h1 : n < l.length) (h2 : ¬ room < n + sz (l.drop n)) : fitF f l room n = fitF f l room (n + sz (l.drop n)) := by
  have hs := (sz_bd (l.drop n)).1
  obtain ⟨g, rfl⟩ : ∃ g, f = g + 1 := ⟨f - 1, by omega⟩
  conv => lhs; unfold fitF
  rw [if_pos h1, if_neg h2]
  exact fitF_more _ _ l room _ (by omega) (by omega)
theorem fitF_stop (f : Nat) (l : Row) (room n : Nat) (h : n < l.length → room < n + sz (l.drop n)) : fitF f l room n = n := by
  cases f with
  | zero => rfl
  | succ f =>
    unfold fitF
    by_cases h1 : n < l.length
    · rw [if_pos h1, if_pos (h h1)]
    · rw [if_neg h1]
theorem fitF_bd : ∀ (f : Nat) (l : Row) (room n : Nat), n ≤ l.length → n ≤ room → l.length ≤ n + f →
    n ≤ fitF f l room n ∧ fitF f l room n ≤ l.length ∧ fitF f l room n ≤ room ∧ (fitF f l room n = l.length ∨ room < fitF f l room n + sz (l.drop (fitF f l room n)))
  | 0, l, room, n, h1, h2, h3 => by unfold fitF; exact ⟨Nat.le_refl _, h1, h2, .inl (by omega)⟩
  | f + 1, l, room, n, h1, h2, h3 => by
    unfold fitF
    by_cases c1 : n < l.length
    · rw [if_pos c1]
      by_cases c2 : room < n + sz (l.drop n)
      · rw [if_pos c2]
        exact ⟨Nat.le_refl _, h1, h2, .inr c2⟩
      · rw [if_neg c2]
        have hne : l.drop n ≠ [] := fun h => by have := List.drop_eq_nil_iff.1 h; omega
        have hs := sz_len _ hne
        rw [List.length_drop] at hs
        have hs1 := (sz_bd (l.drop n)).1
        obtain ⟨i1, i2, i3, i4⟩ := fitF_bd f l room (n + sz (l.drop n)) (by omega) (by omega) (by omega)
        exact ⟨by omega, i2, i3, i4⟩
    · rw [if_neg c1]
      exact ⟨Nat.le_refl _, h1, h2, .inl (by omega)⟩
theorem fit_bd (l : Row) (room : Nat) (hr : 74 ≤ room) (hne : l ≠ []) :
    1 ≤ fit l room ∧ fit l room ≤ l.length ∧ fit l room ≤ room ∧ (l.drop (fit l room) ≠ [] → 4 ≤ fit l room ∧ room < fit l room + sz (l.drop (fit l room))) := by
  obtain ⟨i1, i2, i3, i4⟩ := fitF_bd l.length l room 0 (Nat.zero_le _) (Nat.zero_le _) (by omega)
  have hp := Ch.pos_of_ne hne
  unfold fit
  generalize fitF l.length l room 0 = n at i1 i2 i3 i4
  have hs := sz_bd (l.drop n)
  refine ⟨?_, i2, i3, fun h => ?_⟩
  · omega
  · have : ¬ n = l.length := fun e => h (by rw [e]; simp)
    omega

/-! ### folded lines -/
def foldF : Nat → Row → Nat → Row
  | 0, _, _ => []
  | f + 1, l, room => if l = [] then [] else l.take (fit l room) ++ 13 :: 10 :: (if l.drop (fit l room) = [] then [] else 32 :: foldF f (l.drop (fit l room)) 74)
def foldL (l : Row) : Row := foldF l.length l 75
theorem foldF_more : ∀ (f g : Nat) (l : Row) (room : Nat), 74 ≤ room → l.length ≤ f → l.length ≤ g → foldF f l room = foldF g l room
  | 0, 0, _, _, _, _, _ => rfl
  | 0, g + 1, l, room, _, h, _ => by
    obtain rfl : l = [] := List.eq_nil_of_length_eq_zero (by omega)
    rfl
  | f + 1, 0, l, room, _, _, h => by
    obtain rfl : l = [] := List.eq_nil_of_length_eq_zero (by omega)
    rfl
  | f + 1, g + 1, l, room, hr, hf, hg => by
    unfold foldF
    by_cases h : l = []
    · rw [if_pos h, if_pos h]
    · rw [if_neg h, if_neg h]
      have hb := fit_bd l room hr h
      by_cases h2 : l.drop (fit l room) = []
      · rw [if_pos h2, if_pos h2]
      · rw [if_neg h2, if_neg h2, foldF_more f g (l.drop (fit l room)) 74 (by omega) (by rw [List.length_drop]; omega) (by rw [List.length_drop]; omega)]
theorem foldF_nil (f room : Nat) : foldF f [] room = [] := by cases f <;> rfl
theorem foldF_step (f : Nat) (l : Row) (room : Nat) (hr : 74 ≤ room) (hne : l ≠ []) (h : l.length ≤ f) :
    foldF f l room = l.take (fit l room) ++ 13 :: 10 :: (if l.drop (fit l room) = [] then [] else 32 :: foldF f (l.drop (fit l room)) 74) := by
  have hp := Ch.pos_of_ne hne
  have hb := fit_bd l room hr hne
  obtain ⟨g, rfl⟩ : ∃ g, f = g + 1 := ⟨f - 1, by omega⟩
  conv => lhs; unfold foldF
  rw [if_neg hne, foldF_more g (g + 1) (l.drop (fit l room)) 74 (by omega) (by rw [List.length_drop]; omega) (by rw [List.length_drop]; omega)]
theorem foldF_len : ∀ (f : Nat) (l : Row) (room : Nat), 74 ≤ room → (foldF f l room).length ≤ 4 * l.length
  | 0, l, _, _ => by simp [foldF]
  | f + 1, l, room, hr => by
    unfold foldF
    by_cases h : l = []
    · rw [if_pos h]; simp
    · rw [if_neg h]
      have hb := fit_bd l room hr h
      by_cases h2 : l.drop (fit l room) = []
      · rw [if_pos h2]
        simp only [List.length_append, List.length_cons, List.length_nil, List.length_take]
        omega
      · rw [if_neg h2]
        have := foldF_len f (l.drop (fit l room)) 74 (by omega)
        rw [List.length_drop] at this
        have h4 := (hb.2.2.2 h2).1
        simp only [List.length_append, List.length_cons, List.length_take]
        omega

/-! ### unfolded again -/
def plain (l : Row) : Prop := 13 ∉ l ∧ 10 ∉ l
theorem plain_take (l : Row) (k : Nat) (h : plain l) : plain (l.take k) := ⟨fun hm => h.1 (List.mem_of_mem_take hm), fun hm => h.2 (List.mem_of_mem_take hm)⟩
theorem plain_drop (l : Row) (k : Nat) (h : plain l) : plain (l.drop k) := ⟨fun hm => h.1 (List.mem_of_mem_drop hm), fun hm => h.2 (List.mem_of_mem_drop hm)⟩
theorem ok_of (l : Row) (hne : l ≠ []) (h : 13 ∉ l) : okRow l = true := by
  unfold okRow
  cases l with
  | nil => exact absurd rfl hne
  | cons x l => simpa using h
theorem R_row (out : List Row) (a t : Row) (cr : Bool) (h : plain a) : R out (a ++ (if cr then [13] else []) ++ 10 :: t) = (gstep out a).bind fun o => R o t := by
  cases cr
  · rw [if_neg (by decide), List.append_nil, R_cut out a t h.2, strip_no a h.1]
  · rw [if_pos rfl, R_cut out (a ++ [13]) t (fun hm => by rcases List.mem_append.1 hm with hm | hm; exact h.2 hm; simp at hm), strip_snoc]
/-- a row that goes on -/
theorem R_on (out : List Row) (pre q t : Row) (b : UInt8) (cr : Bool) (hb : bl b = true) (h : plain q) : R (out ++ [pre]) (b :: q ++ (if cr then [13] else []) ++ 10 :: t) = R (out ++ [pre ++ q]) t := by
  have hb2 : b.toNat = 32 ∨ b.toNat = 9 := of_decide_eq_true hb
  have hp : plain (b :: q) := ⟨fun hm => by
      rcases List.mem_cons.1 hm with hm | hm
      · rw [← hm] at hb2; revert hb2; decide
      · exact h.1 hm, fun hm => by
      rcases List.mem_cons.1 hm with hm | hm
      · rw [← hm] at hb2; revert hb2; decide
      · exact h.2 hm⟩
  rw [R_row (out ++ [pre]) (b :: q) t cr hp, gstep_more out pre (b :: q) (ok_of _ (by simp) hp.1) hb]
  rfl
theorem R_rest : ∀ (f : Nat) (out : List Row) (pre l t : Row), plain l → l ≠ [] → l.length ≤ f → R (out ++ [pre]) (32 :: foldF f l 74 ++ t) = R (out ++ [pre ++ l]) t
  | 0, _, _, l, _, _, hne, h => absurd (List.eq_nil_of_length_eq_zero (by omega)) hne
  | f + 1, out, pre, l, t, hp, hne, h => by
    have hb := fit_bd l 74 (by omega) hne
    unfold foldF
    rw [if_neg hne]
    have e : ∀ u : Row, (32 : UInt8) :: (l.take (fit l 74) ++ 13 :: 10 :: u) ++ t = 32 :: l.take (fit l 74) ++ (if true then [13] else []) ++ 10 :: (u ++ t) := fun u => by simp
    rw [e, R_on out pre _ _ 32 true (by decide) (plain_take l _ hp)]
    by_cases h2 : l.drop (fit l 74) = []
    · rw [if_pos h2]
      have : l.take (fit l 74) = l := by conv => rhs; rw [← List.take_append_drop (fit l 74) l, h2, List.append_nil]
      rw [this]
      rfl
    · rw [if_neg h2, R_rest f out (pre ++ l.take (fit l 74)) (l.drop (fit l 74)) t (plain_drop l _ hp) h2 (by rw [List.length_drop]; omega), List.append_assoc, List.take_append_drop]
theorem goodL_tells (l : Row) (h : goodL l = true) : l ≠ [] ∧ headBl l = false ∧ plain l := by
  unfold goodL at h
  simp only [Bool.and_eq_true, Bool.not_eq_true'] at h
  obtain ⟨⟨⟨h1, h2⟩, h3⟩, h4⟩ := h
  exact ⟨fun e => by rw [e] at h1; simp at h1, h2, by simpa using h3, by simpa using h4⟩
theorem headBl_take (l : Row) (k : Nat) (hk : 1 ≤ k) : headBl (l.take k) = headBl l := by
  cases l with
  | nil => simp
  | cons x l =>
    obtain ⟨j, rfl⟩ : ∃ j, k = j + 1 := ⟨k - 1, by omega⟩
    rfl
theorem R_line (out : List Row) (l t : Row) (h : goodL l = true) : R out (foldL l ++ t) = R (out ++ [l]) t := by
  obtain ⟨hne, hb, hp⟩ := goodL_tells l h
  have hf := fit_bd l 75 (by omega) hne
  unfold foldL
  rw [foldF_step _ l 75 (by omega) hne (Nat.le_refl _)]
  have e : ∀ u : Row, l.take (fit l 75) ++ 13 :: 10 :: u ++ t = l.take (fit l 75) ++ (if true then [13] else []) ++ 10 :: (u ++ t) := fun u => by simp
  have hne2 : l.take (fit l 75) ≠ [] := fun h0 => by
    rcases List.take_eq_nil_iff.1 h0 with h0 | h0
    · omega
    · exact hne h0
  rw [e, R_row out _ _ true (plain_take l _ hp), gstep_new out _ (ok_of _ hne2 (plain_take l _ hp).1) (by rw [headBl_take l _ hf.1]; exact hb)]
  show R (out ++ [l.take (fit l 75)]) _ = _
  by_cases h2 : l.drop (fit l 75) = []
  · rw [if_pos h2]
    have : l.take (fit l 75) = l := by conv => rhs; rw [← List.take_append_drop (fit l 75) l, h2, List.append_nil]
    rw [this]
    rfl
  · rw [if_neg h2, R_rest _ out (l.take (fit l 75)) (l.drop (fit l 75)) t (plain_drop l _ hp) h2 (by rw [List.length_drop]; omega), List.take_append_drop]
def foldAll (ls : List Row) : Row := (ls.map foldL).flatten
theorem R_all : ∀ (ls out : List Row), (∀ l ∈ ls, goodL l = true) → R out (foldAll ls) = some (out ++ ls)
  | [], out, _ => by rw [List.append_nil]; rfl
  | l :: ls, out, h => by
    have e : foldAll (l :: ls) = foldL l ++ foldAll ls := by simp [foldAll]
    rw [e, R_line out l _ (h l (by simp)), R_all ls (out ++ [l]) (fun x hx => h x (by simp [hx]))]
    simp
theorem foldAll_len (ls : List Row) : (foldAll ls).length ≤ 4 * tot ls := by
  induction ls with
  | nil => simp [foldAll]
  | cons l ls ih =>
    have e : foldAll (l :: ls) = foldL l ++ foldAll ls := by simp [foldAll]
    have e2 : tot (l :: ls) = l.length + 1 + tot ls := by simp [tot]
    have h1 : (foldL l).length ≤ 4 * l.length := foldF_len _ l 75 (by omega)
    rw [e, List.length_append]
    omega

/-! ### rows of a folded line -/
inductive Rws : Row → Prop
  | nil : Rws []
  | row (r t : Row) (h1 : 13 ∉ r) (h2 : r.length ≤ 75) (h3 : t ≠ [] → ∃ u, t = 32 :: u ∧ u ≠ [] ∧ 75 < r.length + sz u) (h4 : Rws t) : Rws (r ++ 13 :: 10 :: t)
theorem foldF_front (f : Nat) (l : Row) (hne : l ≠ []) (h : l.length ≤ f) : sz (foldF f l 74) = sz l ∧ foldF f l 74 ≠ [] := by
  have hb := fit_bd l 74 (by omega) hne
  rw [foldF_step f l 74 (by omega) hne h]
  have hne2 : l.take (fit l 74) ≠ [] := fun h0 => by
    rcases List.take_eq_nil_iff.1 h0 with h0 | h0
    · omega
    · exact hne h0
  refine ⟨?_, by simp⟩
  rw [sz_prefix (l.take (fit l 74)) (l.drop (fit l 74)) _ hne2 ?_, List.take_append_drop]
  by_cases h2 : l.drop (fit l 74) = []
  · exact .inr h2
  · refine .inl ?_
    have := (hb.2.2.2 h2).1
    rw [List.length_take]
    omega
theorem rws_rest : ∀ (f : Nat) (l : Row), plain l → l ≠ [] → l.length ≤ f → Rws (32 :: foldF f l 74)
  | 0, l, _, hne, h => absurd (List.eq_nil_of_length_eq_zero (by omega)) hne
  | f + 1, l, hp, hne, h => by
    have hb := fit_bd l 74 (by omega) hne
    rw [foldF_step (f + 1) l 74 (by omega) hne h]
    rw [← List.cons_append]
    refine .row _ _ ?_ ?_ ?_ ?_
    · intro hm
      rcases List.mem_cons.1 hm with hm | hm
      · revert hm; decide
      · exact (plain_take l _ hp).1 hm
    · simp only [List.length_cons, List.length_take]; omega
    · intro ht
      by_cases h2 : l.drop (fit l 74) = []
      · exact absurd (if_pos h2) ht
      · rw [if_neg h2]
        have hl : (l.drop (fit l 74)).length ≤ f + 1 := by rw [List.length_drop]; omega
        obtain ⟨e1, e2⟩ := foldF_front (f + 1) _ h2 hl
        refine ⟨_, rfl, e2, ?_⟩
        rw [e1]
        have := (hb.2.2.2 h2).2
        simp only [List.length_cons, List.length_take]
        omega
    · by_cases h2 : l.drop (fit l 74) = []
      · rw [if_pos h2]; exact .nil
      · rw [if_neg h2, foldF_more (f + 1) f _ 74 (by omega) (by rw [List.length_drop]; omega) (by rw [List.length_drop]; omega)]
        exact rws_rest f _ (plain_drop l _ hp) h2 (by rw [List.length_drop]; omega)
theorem rws_line (l : Row) (hp : plain l) (hne : l ≠ []) : Rws (foldL l) := by
  have hb := fit_bd l 75 (by omega) hne
  unfold foldL
  rw [foldF_step _ l 75 (by omega) hne (Nat.le_refl _)]
  refine .row _ _ (plain_take l _ hp).1 (by rw [List.length_take]; omega) ?_ ?_
  · intro ht
    by_cases h2 : l.drop (fit l 75) = []
    · exact absurd (if_pos h2) ht
    · rw [if_neg h2]
      have hl : (l.drop (fit l 75)).length ≤ l.length := by rw [List.length_drop]; omega
      obtain ⟨e1, e2⟩ := foldF_front l.length _ h2 hl
      refine ⟨_, rfl, e2, ?_⟩
      rw [e1]
      have := (hb.2.2.2 h2).2
      simp only [List.length_take]
      omega
  · by_cases h2 : l.drop (fit l 75) = []
    · rw [if_pos h2]; exact .nil
    · rw [if_neg h2]
      exact rws_rest _ _ (plain_drop l _ hp) h2 (by rw [List.length_drop]; omega)
end Go.Proofs.YthnnpnlapjlnoaaGreatDoor.Fo

/-
  PLAIN LAWS OF THE REFERENCE's Fold: character by character ('rf'), it makes what 'foldL' is.
-/
set_option linter.unusedVariables false
namespace Go.Proofs.YthnnpnlapjlnoaaGreatDoor.Fo

/-- what is still written of a line: the room left in this row, whether the row has a character already -/
def rf : Nat → Row → Nat → Bool → Row
  | 0, _, _, _ => [13, 10]
  | f + 1, l, room, first => if l = [] then [13, 10] else
      if room < sz l ∧ first = false then 13 :: 10 :: 32 :: (l.take (sz l) ++ rf f (l.drop (sz l)) (74 - sz l) false)
      else l.take (sz l) ++ rf f (l.drop (sz l)) (room - sz l) false
def rfold (l : Row) (room : Nat) (first : Bool) : Row := rf l.length l room first
theorem rf_more : ∀ (f g : Nat) (l : Row) (room : Nat) (first : Bool), l.length ≤ f → l.length ≤ g → rf f l room first = rf g l room first
  | 0, 0, _, _, _, _, _ => rfl
  | 0, g + 1, l, _, _, h, _ => by
    obtain rfl : l = [] := List.eq_nil_of_length_eq_zero (by omega)
    simp [rf]
  | f + 1, 0, l, _, _, _, h => by
    obtain rfl : l = [] := List.eq_nil_of_length_eq_zero (by omega)
    simp [rf]
  | f + 1, g + 1, l, room, first, hf, hg => by
    unfold rf
    by_cases h : l = []
    · rw [if_pos h, if_pos h]
    · have hp := Ch.pos_of_ne h
      have hs := (sz_bd l).1
      have hl : (l.drop (sz l)).length ≤ f ∧ (l.drop (sz l)).length ≤ g := by rw [List.length_drop]; omega
      rw [if_neg h, if_neg h, rf_more f g _ (74 - sz l) false hl.1 hl.2, rf_more f g _ (room - sz l) false hl.1 hl.2]
theorem rfold_nil (room : Nat) (first : Bool) : rfold [] room first = [13, 10] := rfl
theorem rfold_new (l : Row) (room : Nat) (hne : l ≠ []) (h : room < sz l) : rfold l room false = 13 :: 10 :: 32 :: (l.take (sz l) ++ rfold (l.drop (sz l)) (74 - sz l) false) := by
  have hp := Ch.pos_of_ne hne
  have hs := (sz_bd l).1
  unfold rfold
  obtain ⟨f, hf⟩ : ∃ f, l.length = f + 1 := ⟨l.length - 1, by omega⟩
  rw [hf]
  conv => lhs; unfold rf
  rw [if_neg hne, if_pos ⟨h, rfl⟩, rf_more f (l.drop (sz l)).length _ _ _ (by rw [List.length_drop]; omega) (Nat.le_refl _)]
theorem rfold_next (l : Row) (room : Nat) (first : Bool) (hne : l ≠ []) (h : ¬ room < sz l ∨ first = true) : rfold l room first = l.take (sz l) ++ rfold (l.drop (sz l)) (room - sz l) false := by
  have hp := Ch.pos_of_ne hne
  have hs := (sz_bd l).1
  unfold rfold
  obtain ⟨f, hf⟩ : ∃ f, l.length = f + 1 := ⟨l.length - 1, by omega⟩
  rw [hf]
  conv => lhs; unfold rf
  rw [if_neg hne, if_neg (fun e => by rcases h with h | h; exact h e.1; rw [h] at e; exact absurd e.2 (by simp)), rf_more f (l.drop (sz l)).length _ _ _ (by rw [List.length_drop]; omega) (Nat.le_refl _)]
/-- what is behind a row -/
def behind (l : Row) (room : Nat) : Row := 13 :: 10 :: (if l.drop (fit l room) = [] then [] else 32 :: foldF (l.drop (fit l room)).length (l.drop (fit l room)) 74)
theorem foldF_row (l : Row) (room : Nat) (hr : 74 ≤ room) (hne : l ≠ []) : foldF l.length l room = l.take (fit l room) ++ behind l room := by
  have hb := fit_bd l room hr hne
  have hp := Ch.pos_of_ne hne
  rw [foldF_step l.length l room hr hne (Nat.le_refl _)]
  unfold behind
  by_cases h : l.drop (fit l room) = []
  · rw [if_pos h, if_pos h]
  · rw [if_neg h, if_neg h, foldF_more l.length (l.drop (fit l room)).length _ 74 (by omega) (by rw [List.length_drop]; omega) (Nat.le_refl _)]
theorem rf_row : ∀ (m : Nat) (l : Row) (room n : Nat), 74 ≤ room → l ≠ [] → 0 < n → n ≤ l.length → n ≤ room → l.length - n ≤ m → fit l room = fitF l.length l room n →
    rfold (l.drop n) (room - n) false = (l.drop n).take (fit l room - n) ++ behind l room
  | m, l, room, n, hr, hne, hn0, hn, hnr, hm, hfit => by
    have hfb := fitF_bd l.length l room n hn hnr (by omega)
    rw [← hfit] at hfb
    by_cases hd : l.drop n = []
    · have e : fit l room = n := by
        rw [hfit]
        exact fitF_stop _ _ _ _ (fun h => absurd hd (fun e => by have := List.drop_eq_nil_iff.1 e; omega))
      have e2 : l.drop (fit l room) = [] := by rw [e]; exact hd
      unfold behind
      rw [hd, rfold_nil, if_pos e2]
      simp
    · have hlt : n < l.length := by
        rcases Nat.lt_or_ge n l.length with h | h
        · exact h
        · exact absurd (List.drop_eq_nil_of_le h) hd
      have hs := sz_bd (l.drop n)
      have hsl := sz_len _ hd
      rw [List.length_drop] at hsl
      match m, hm with
      | 0, hm => omega
      | m + 1, hm =>
        by_cases hc : room < n + sz (l.drop n)
        · -- a row begins
          have e : fit l room = n := by rw [hfit]; exact fitF_stop _ _ _ _ (fun _ => hc)
          rw [rfold_new _ _ hd (by omega), e, Nat.sub_self]
          unfold behind
          rw [e, if_neg hd, List.take_zero, List.nil_append]
          congr 3
          have hb' := fit_bd (l.drop n) 74 (Nat.le_refl _) hd
          have hf0 : fit (l.drop n) 74 = fitF (l.drop n).length (l.drop n) 74 (sz (l.drop n)) := by
            unfold fit
            have := fitF_next (l.drop n).length (l.drop n) 74 0 (by omega) (Ch.pos_of_ne hd) (by rw [List.drop_zero]; omega)
            rw [List.drop_zero, Nat.zero_add] at this
            exact this
          have ih := rf_row m (l.drop n) 74 (sz (l.drop n)) (Nat.le_refl _) hd (by omega) (by rw [List.length_drop]; omega) (by omega) (by rw [List.length_drop]; omega) hf0
          rw [foldF_row (l.drop n) 74 (Nat.le_refl _) hd, ih, ← List.append_assoc]
          congr 1
          have hle : sz (l.drop n) ≤ fit (l.drop n) 74 := by
            rw [hf0]
            exact (fitF_bd _ _ _ _ (by rw [List.length_drop]; omega) (by omega) (by omega)).1
          rw [← List.take_add, show sz (l.drop n) + (fit (l.drop n) 74 - sz (l.drop n)) = fit (l.drop n) 74 by omega]
        · have hf1 : fit l room = fitF l.length l room (n + sz (l.drop n)) := by rw [hfit]; exact fitF_next _ _ _ _ (by omega) hlt hc
          have ih := rf_row m l room (n + sz (l.drop n)) hr hne (by omega) (by omega) (by omega) (by omega) hf1
          have hle : n + sz (l.drop n) ≤ fit l room := by
            rw [hf1]
            exact (fitF_bd _ _ _ _ (by omega) (by omega) (by omega)).1
          rw [rfold_next _ _ _ hd (.inl (by omega)), List.drop_drop, show room - n - sz (l.drop n) = room - (n + sz (l.drop n)) by omega, ih, ← List.append_assoc]
          congr 1
          rw [← List.drop_drop, ← List.take_add, show sz (l.drop n) + (fit l room - (n + sz (l.drop n))) = fit l room - n by omega]
theorem rfold_foldL (l : Row) (hne : l ≠ []) : rfold l 75 true = foldL l := by
  have hp := Ch.pos_of_ne hne
  have hs := sz_bd l
  have hsl := sz_len l hne
  have hf0 : fit l 75 = fitF l.length l 75 (sz l) := by
    unfold fit
    have := fitF_next l.length l 75 0 (by omega) hp (by rw [List.drop_zero]; omega)
    rw [List.drop_zero, Nat.zero_add] at this
    exact this
  have ih := rf_row l.length l 75 (sz l) (by omega) hne (by omega) hsl (by omega) (by omega) hf0
  have hle : sz l ≤ fit l 75 := by
    rw [hf0]
    exact (fitF_bd _ _ _ _ hsl (by omega) (by omega)).1
  unfold foldL
  rw [foldF_row l 75 (by omega) hne, rfold_next l 75 true hne (.inr rfl), ih, ← List.append_assoc]
  congr 1
  rw [← List.take_add, show sz l + (fit l 75 - sz l) = fit l 75 by omega]
theorem rf_len : ∀ (f : Nat) (l : Row) (room : Nat) (first : Bool), (rf f l room first).length ≤ 4 * l.length + 2
  | 0, l, _, _ => by simp [rf]
  | f + 1, l, room, first => by
    unfold rf
    by_cases h : l = []
    · rw [if_pos h]; simp
    · have hs := (sz_bd l).1
      have hp := Ch.pos_of_ne h
      have hsl := sz_len l h
      have i1 := rf_len f (l.drop (sz l)) (74 - sz l) false
      have i2 := rf_len f (l.drop (sz l)) (room - sz l) false
      rw [List.length_drop] at i1 i2
      rw [if_neg h]
      split
      · simp only [List.length_cons, List.length_append, List.length_take]; omega
      · simp only [List.length_append, List.length_take]; omega
theorem rfold_len (l : Row) (room : Nat) (first : Bool) : (rfold l room first).length ≤ 4 * l.length + 2 := rf_len _ _ _ _
end Go.Proofs.YthnnpnlapjlnoaaGreatDoor.Fo

/-
  WALKS OF THE REFERENCE's Size AND Fold.
-/
set_option linter.unusedVariables false
namespace Go.Proofs.YthnnpnlapjlnoaaGreatDoor.Fo
open Go.Lib Go.RowKit

set_option maxHeartbeats 2000000 in
set_option maxRecDepth 100000 in
theorem rSize_any (s : ByteArray) (w : World) (hs : s.size ≤ 9223372036854775807) :
    Calls Tryz.prog 64 #[.string s] w fun e w' => e = .returned (.int .i64 (sz s.data.toList : Int)) ∧ w = w' := by
  have cR := fun W => Ch.rune_any s W hs
  unfold sz
  obtain ⟨⟨r, n⟩, hr⟩ : ∃ p, Ch.rune s.data.toList = p := ⟨_, rfl⟩
  rw [hr] at cR ⊢
  clear hr
  unfold Ch.runeE at cR
  by_cases h0 : n = 0
  · subst h0
    rw [if_pos rfl]
    go_enter Tryz.func64, Tryz.ntmps64
    go_wp2_with (go_at_call 50; refine (cR _).mono ?_; rintro e w' ⟨rfl, rfl⟩)
    go_ret
    exact ⟨rfl, rfl⟩
  · rw [if_neg h0]
    have hp : 0 < n := by omega
    clear h0
    go_enter Tryz.func64, Tryz.ntmps64
    go_wp2_with (go_at_call 50; refine (cR _).mono ?_; rintro e w' ⟨rfl, rfl⟩)
    go_ret
    exact ⟨rfl, rfl⟩

theorem catD (a b c : ByteArray) (h : a ++ b = c) : c.data.toList = a.data.toList ++ b.data.toList := by rw [← h, ByteArray.data_append, Array.toList_append]
theorem catS (a b c : ByteArray) (h : a ++ b = c) : c.size = a.size + b.size := by rw [← h, ByteArray.size_append]
def sLen : Value → Nat
  | .string s => s.size
  | _ => 0
/-- how the fold stands: the line left, what is out, the room, whether the row is empty -/
def RfRel (T : Row) (n : Nat) (s0 s3 s4 s5 : Value) : Prop :=
  ∃ (l out : ByteArray) (room : Nat) (first : Bool), s0 = .string l ∧ s3 = .string out ∧ s4 = .int .i64 (room : Int) ∧ s5 = .bool first ∧ room ≤ 75 ∧ (first = true → room = 75) ∧ l.size ≤ n ∧ out.size ≤ 4 * n + 2 ∧ T = out.data.toList ++ rfold l.data.toList room first

set_option maxHeartbeats 4000000 in
set_option maxRecDepth 100000 in
theorem rFold_any (s : ByteArray) (w : World) (hne : s.data.toList ≠ []) (hs : s.size ≤ 1099511627776) :
    Calls Tryz.prog 38 #[.string s] w fun e w' => (∃ x : ByteArray, x.data.toList = foldL s.data.toList ∧ e = .returned (.string x)) ∧ w = w' := by
  obtain ⟨T, hT⟩ : ∃ T, foldL s.data.toList = T := ⟨_, rfl⟩
  have h0 : T = rfold s.data.toList 75 true := by rw [← hT, rfold_foldL _ hne]
  have hTl : T.length ≤ 4 * s.size + 2 := by rw [h0, Lib.size_eq]; exact rfold_len _ _ _
  rw [hT]
  have h0' := Lib.hid h0
  clear hT h0 hne
  go_enter Tryz.func38, Tryz.ntmps38
  go_wp2
  go_loopw [0, 3, 4, 5] (fun s0 s3 s4 s5 wr => RfRel T s.size s0 s3 s4 s5 ∧ w = wr) (fun s0 s3 s4 s5 wr => sLen s0)
  case atStart => exact ⟨⟨s, ⟨#[]⟩, 75, true, rfl, rfl, rfl, rfl, Nat.le_refl _, fun _ => rfl, Nat.le_refl _, Nat.zero_le _, by rw [h0'.out]; rfl⟩, rfl⟩
  case round =>
    obtain ⟨⟨l, out, room, first, rfl, rfl, rfl, rfl, hr, hf, hl, ho, hR⟩, rfl⟩ := hrel
    by_cases hz : l.size = 0
    · have hl0 : l.data.toList = [] := List.eq_nil_of_length_eq_zero (by rw [← Lib.size_eq]; exact hz)
      rw [hl0, rfold_nil] at hR
      obtain ⟨q, hq⟩ : ∃ q, out ++ (⟨#[13, 10]⟩ : ByteArray) = q := ⟨_, rfl⟩
      have hqd : q.data.toList = T := by rw [catD _ _ _ hq, hR]
      have m0 : ¬ 9223372036854775807 < out.size + 2 := by omega
      have hz1 : l.size ≤ 0 := by omega
      have hqd' := Lib.hid hqd
      clear hR hl0 hqd hz hf
      go_wp2
      go_ret
      exact ⟨⟨q, hqd'.out, rfl⟩, rfl⟩
    · have hln : l.data.toList ≠ [] := fun e => hz (by rw [Lib.size_eq, e]; rfl)
      have hb := sz_bd l.data.toList
      have hsl := sz_len _ hln
      rw [← Lib.size_eq] at hsl
      have cZ := rSize_any l w (by omega)
      have hnw := fun h => rfold_new l.data.toList room hln h
      have hnx := fun h => rfold_next l.data.toList room first hln h
      obtain ⟨n, hn⟩ : ∃ n, sz l.data.toList = n := ⟨_, rfl⟩
      rw [hn] at hb hsl cZ hnw hnx
      obtain ⟨hb1, hb2⟩ := hb
      have hz1 : 0 < l.size := by omega
      have e1 : (l.extract 0 n).data.toList = l.data.toList.take n := by rw [Lib.extract_data]; rfl
      have e2 : (l.extract n l.size).data.toList = l.data.toList.drop n := Lib.extract_to_end l n
      have e1s : (l.extract 0 n).size = n := by rw [Lib.size_eq, e1, List.length_take, ← Lib.size_eq]; omega
      have e2s : (l.extract n l.size).size = l.size - n := by rw [Lib.size_eq, e2, List.length_drop, ← Lib.size_eq]
      obtain ⟨a, ha⟩ : ∃ a, l.extract 0 n = a := ⟨_, rfl⟩
      obtain ⟨r, hr2⟩ : ∃ r, l.extract n l.size = r := ⟨_, rfl⟩
      rw [ha] at e1 e1s
      rw [hr2] at e2 e2s
      have hTo : ∀ (x : ByteArray) (rm : Nat) (y : Row), T = x.data.toList ++ y → x.size ≤ 4 * s.size + 2 := fun x rm y h => by
        have := congrArg List.length h
        rw [List.length_append, ← Lib.size_eq] at this
        omega
      have hTo' := Lib.hid hTo
      clear hTo
      by_cases hc : room < n ∧ first = false
      · obtain ⟨hc1, rfl⟩ := hc
        have hg := hnw hc1
        rw [hg] at hR
        obtain ⟨q1, hq1⟩ : ∃ q, out ++ (⟨#[13, 10, 32]⟩ : ByteArray) = q := ⟨_, rfl⟩
        obtain ⟨q2, hq2⟩ : ∃ q, q1 ++ a = q := ⟨_, rfl⟩
        have s1 := catS _ _ _ hq1
        rw [show (⟨#[13, 10, 32]⟩ : ByteArray).size = 3 from rfl] at s1
        have m0 : ¬ 9223372036854775807 < out.size + 3 := by omega
        have m1 : ¬ 9223372036854775807 < q1.size + a.size := by omega
        have hn2 : T = q2.data.toList ++ rfold r.data.toList (74 - n) false := by
          rw [catD _ _ _ hq2, catD _ _ _ hq1, e1, e2, hR]
          simp
        have hq2s := hTo'.out q2 0 _ hn2
        have hn2' := Lib.hid hn2
        have hsub : (74 : Int) - (n : Int) = ((74 - n : Nat) : Int) := by omega
        have hc2 : (room : Int) < (n : Int) := by omega
        clear hR hg hnw hnx hn2 hn e1 e2 hln hz hf
        go_wp2_with fail
        go_at_call 64
        refine cZ.mono ?_
        rintro e w2 ⟨rfl, rfl⟩
        go_wp2
        go_roundw
        case rel => exact ⟨⟨r, q2, 74 - n, false, rfl, rfl, by rw [← hsub], rfl, by omega, (fun h => by cases h), by omega, hq2s, hn2'.out⟩, by trivial⟩
        case measure => simp only [sLen]; omega
      · have hc' : ¬ room < n ∨ first = true := by
          by_cases h : room < n
          · right
            cases first
            · exact absurd ⟨h, rfl⟩ hc
            · rfl
          · exact .inl h
        have hnr : n ≤ room := by
          rcases hc' with h | h
          · omega
          · have := hf h; omega
        have hg := hnx hc'
        rw [hg] at hR
        obtain ⟨q2, hq2⟩ : ∃ q, out ++ a = q := ⟨_, rfl⟩
        have m1 : ¬ 9223372036854775807 < out.size + a.size := by omega
        have hn2 : T = q2.data.toList ++ rfold r.data.toList (room - n) false := by
          rw [catD _ _ _ hq2, e1, e2, hR]; simp
        have hq2s := hTo'.out q2 0 _ hn2
        have hn2' := Lib.hid hn2
        have hsub : (room : Int) - (n : Int) = ((room - n : Nat) : Int) := by omega
        have hc2 : ¬ (room : Int) < (n : Int) := by omega
        clear hR hg hnw hnx hn2 hn e1 e2 hln hz hf hc hc'
        go_wp2_with fail
        go_at_call 64
        refine cZ.mono ?_
        rintro e w2 ⟨rfl, rfl⟩
        go_wp2
        go_roundw
        case rel => exact ⟨⟨r, q2, room - n, false, rfl, rfl, by rw [← hsub], rfl, by omega, (fun h => by cases h), by omega, hq2s, hn2'.out⟩, by trivial⟩
        case measure => simp only [sLen]; omega
end Go.Proofs.YthnnpnlapjlnoaaGreatDoor.Fo

/-
  THE WALK OF THE REFERENCE's Text.
-/
set_option linter.unusedVariables false
namespace Go.Proofs.YthnnpnlapjlnoaaGreatDoor.Ca
open Go.Lib Go.RowKit
open Li (LD PD sv LineAt PrmsAt pr)

def bBegin : Row := [66, 69, 71, 73, 78, 58, 86, 67, 65, 82, 68]
def bVersion : Row := [86, 69, 82, 83, 73, 79, 78, 58, 52, 46, 48]
def bEnd : Row := [69, 78, 68, 58, 86, 67, 65, 82, 68]
/-- the rows of the lines up to the k-th -/
def body (Ls : List LD) (k : Nat) : Row := (Ls.take k).flatMap fun L => Fo.foldL (pr L)
def headT : Row := Fo.foldL bBegin ++ Fo.foldL bVersion
/-- a card's text -/
def cardT (Ls : List LD) : Row := headT ++ body Ls Ls.length ++ Fo.foldL bEnd
theorem body_zero (Ls : List LD) : body Ls 0 = [] := by simp [body]
theorem body_next (Ls : List LD) (k : Nat) (L : LD) (h : Ls[k]? = some L) : body Ls (k + 1) = body Ls k ++ Fo.foldL (pr L) := by
  obtain ⟨hl, hv⟩ := List.getElem?_eq_some_iff.1 h
  unfold body
  rw [List.take_succ_eq_append_getElem hl, hv, List.flatMap_append]
  simp
theorem body_le (Ls : List LD) (k : Nat) : (body Ls k).length ≤ (body Ls Ls.length).length := by
  unfold body
  rw [List.take_length]
  conv => rhs; rw [← List.take_append_drop k Ls, List.flatMap_append, List.length_append]
  omega
theorem pr_ne (L : LD) : pr L ≠ [] := fun e => by
  have := congrArg List.length e
  unfold pr at this
  simp only [List.length_append, List.length_cons, List.length_nil] at this
  omega
theorem hd1 : (Fo.foldL bBegin).length = 13 := by kernel_rfl
theorem hd2 : (Fo.foldL bVersion).length = 13 := by kernel_rfl
theorem hd3 : (Fo.foldL bEnd).length = 11 := by kernel_rfl

set_option maxHeartbeats 8000000 in
set_option maxRecDepth 100000 in
theorem text_any (v : Value) (Ls : List LD) (w : World) (h : LinesAt w v Ls) (hne : ∀ L ∈ Ls, ∀ p ∈ L.params, p.vals ≠ []) (hpr : ∀ L ∈ Ls, (pr L).length ≤ 68719476736) (hlen : (body Ls Ls.length).length ≤ 1099511627776) :
    Calls Tryz.prog 15 #[v] w fun e w' => (∃ x : ByteArray, x.data.toList = cardT Ls ∧ e = .returned (.string x)) ∧ Below w.heap.size w w' := by
  obtain ⟨A, b, off, c, rfl, h1, h2, h3, h4⟩ := h
  have hbl : ∀ k, (body Ls k).length ≤ 1099511627776 := fun k => Nat.le_trans (body_le Ls k) hlen
  obtain ⟨n, hn⟩ : ∃ n, Ls.length = n := ⟨_, rfl⟩
  have hcd : cardT Ls = headT ++ body Ls n ++ Fo.foldL bEnd := by unfold cardT; rw [hn]
  rw [hn] at h1 h3 hlen ⊢
  unfold maxLen at h2
  have cB := fun W => Fo.rFold_any ⟨#[66, 69, 71, 73, 78, 58, 86, 67, 65, 82, 68]⟩ W (by decide) (by decide)
  have cV := fun W => Fo.rFold_any ⟨#[86, 69, 82, 83, 73, 79, 78, 58, 52, 46, 48]⟩ W (by decide) (by decide)
  have cE := fun W => Fo.rFold_any ⟨#[69, 78, 68, 58, 86, 67, 65, 82, 68]⟩ W (by decide) (by decide)
  rw [show (⟨#[66, 69, 71, 73, 78, 58, 86, 67, 65, 82, 68]⟩ : ByteArray).data.toList = bBegin from rfl] at cB
  rw [show (⟨#[86, 69, 82, 83, 73, 79, 78, 58, 52, 46, 48]⟩ : ByteArray).data.toList = bVersion from rfl] at cV
  rw [show (⟨#[69, 78, 68, 58, 86, 67, 65, 82, 68]⟩ : ByteArray).data.toList = bEnd from rfl] at cE
  have hn' := Lib.hid hn
  have h3' := Lib.hid h3
  have h4' := Lib.hid h4
  have hne' := Lib.hid hne
  have hpr' := Lib.hid hpr
  have hbl' := Lib.hid hbl
  have hcd' := Lib.hid hcd
  clear hn h3 h4 hne hpr hbl hcd hlen
  go_enter Tryz.func15, Tryz.ntmps15
  go_wp2_with fail
  go_at_call 38
  refine (cB _).mono ?_
  rintro e w1 ⟨⟨x1, hx1, rfl⟩, rfl⟩
  go_wp2_with fail
  go_at_call 38
  refine (cV _).mono ?_
  rintro e w1 ⟨⟨x2, hx2, rfl⟩, rfl⟩
  obtain ⟨q0, hq0⟩ : ∃ q, x1 ++ x2 = q := ⟨_, rfl⟩
  have s1 : x1.size = 13 := by rw [Lib.size_eq, hx1, hd1]
  have s2 : x2.size = 13 := by rw [Lib.size_eq, hx2, hd2]
  have m0 : ¬ 9223372036854775807 < x1.size + x2.size := by omega
  have hq0d : q0.data.toList = headT := by rw [Fo.catD _ _ _ hq0, hx1, hx2]; rfl
  have hq0' := Lib.hid hq0d
  clear hx1 hx2 hq0d cB cV s1 s2
  go_wp2
  go_loopw [3, 11] (fun s3 s11 wr => ∃ (k : Nat) (out : ByteArray), s3 = .string out ∧ s11 = .int .i64 (k : Int) ∧ k ≤ n ∧ out.data.toList = headT ++ body Ls k ∧ Below w.heap.size w wr) (fun s3 s11 wr => n - (RowKit.intOf s11).toNat)
  case atStart => exact ⟨0, _, rfl, rfl, Nat.zero_le _, by rw [hq0'.out, body_zero, List.append_nil], Below.refl _ _⟩
  case round =>
    obtain ⟨k, out, rfl, rfl, hk, hout, hbw⟩ := hrel
    have hos : out.size ≤ 1099511627802 := by
      have h0 : headT.length = 26 := by unfold headT; rw [List.length_append, hd1, hd2]
      have := hbl'.out k
      rw [Lib.size_eq, hout, List.length_append, h0]; omega
    by_cases hlt : k < n
    · have hl : Ls[k]? = some (Ls[k]'(by have := hn'.out; omega)) := List.getElem?_eq_getElem _
      obtain ⟨L, hle⟩ : ∃ L, Ls[k]'(by have := hn'.out; omega) = L := ⟨_, rfl⟩
      have hmem : L ∈ Ls := by rw [← hle]; exact List.getElem_mem _
      rw [hle] at hl
      obtain ⟨rfl, hg⟩ := h3'.out (by omega)
      obtain ⟨a1, a2, a4, pA, pn, pc, e1, e2, e4, hpn, hpp, g0, g1, g2, g3⟩ := LinesAt.line h4'.out hg hbw hl
      have hLat : LineAt wr (.agg #[.string a1, .string a2, .slice pA pn pc, .string a4]) L := ⟨.slice pA pn pc, by rw [e1, e2, e4], hpp⟩
      have hprL := hpr'.out L hmem
      have hbx : Below wr.heap.size wr (wr.alloc (.cells #[.string a1, .string a2, .slice pA pn pc, .string a4] 41)) := (Below.refl _ _).alloc (Nat.le_refl _) _
      have cP := Li.refPrint_any _ L _ (hLat.kept hbx) (hne'.out L hmem) (by omega)
      have hnx := body_next Ls k L hl
      have hprne := pr_ne L
      have hbnx := hbl'.out (k + 1)
      rw [hnx, List.length_append] at hbnx
      have hnx' := Lib.hid hnx
      have hout' := Lib.hid hout
      have hprne' := Lib.hid hprne
      have hprL' := Lib.hid hprL
      have hbnx' := Lib.hid hbnx
      clear hle hl hmem e1 e2 e4 hpn hpp hLat hprL hnx hout hprne hbnx
      go_wp2_with fail
      go_at_call 39
      refine cP.mono ?_
      rintro e w3 ⟨⟨x, hx, rfl⟩, hb3⟩
      have hB3 := belowThen (belowThen hbw hbx) hb3
      have cF := Fo.rFold_any x w3 (by rw [hx]; exact hprne'.out) (by rw [Lib.size_eq, hx]; have := hprL'.out; omega)
      rw [hx] at cF
      clear hx hb3 cP g0 g1 g2 g3 hbx hbw
      go_wp2_with fail
      go_at_call 38
      refine cF.mono ?_
      rintro e w4 ⟨⟨y, hy, rfl⟩, rfl⟩
      obtain ⟨q, hq⟩ : ∃ q, out ++ y = q := ⟨_, rfl⟩
      have hys : y.size ≤ 1099511627776 := by rw [Lib.size_eq, hy]; have := hbnx'.out; omega
      have m1 : ¬ 9223372036854775807 < out.size + y.size := by omega
      have hqd : q.data.toList = headT ++ body Ls (k + 1) := by rw [Fo.catD _ _ _ hq, hout'.out, hy, hnx'.out, List.append_assoc]
      have hqd' := Lib.hid hqd
      clear hy hqd cF
      go_wp2
      go_roundw
      case rel => exact ⟨k + 1, q, rfl, by go_num, by omega, hqd'.out, hB3⟩
      case measure => simp [RowKit.intOf]; omega
    · obtain rfl : k = n := by omega
      have hout' := Lib.hid hout
      clear hout
      go_wp2_with fail
      go_at_call 38
      refine (cE _).mono ?_
      rintro e w3 ⟨⟨y, hy, rfl⟩, rfl⟩
      obtain ⟨q, hq⟩ : ∃ q, out ++ y = q := ⟨_, rfl⟩
      have hys : y.size = 11 := by rw [Lib.size_eq, hy, hd3]
      have m1 : ¬ 9223372036854775807 < out.size + y.size := by omega
      have hqd : q.data.toList = cardT Ls := by rw [Fo.catD _ _ _ hq, hout'.out, hy, hcd'.out]
      have hqd' := Lib.hid hqd
      clear hy hqd cE hys
      go_wp2
      go_ret
      exact ⟨⟨q, hqd'.out, rfl⟩, hbw⟩
end Go.Proofs.YthnnpnlapjlnoaaGreatDoor.Ca

/-
  PLAIN LAWS OF A CARD's TEXT: what it is read as ('pcard'); its frame, by its rows and by its lines.
-/
set_option linter.unusedVariables false
namespace Go.Proofs.YthnnpnlapjlnoaaGreatDoor.Ca
open Li (LD PD chk pr okT ends nameB parse)

def wBEGIN : Row := [66, 69, 71, 73, 78]
def wVCARD : Row := [86, 67, 65, 82, 68]
def wVERSION : Row := [86, 69, 82, 83, 73, 79, 78]
def w40 : Row := [52, 46, 48]
def wEND : Row := [69, 78, 68]
theorem low_cut : ∀ (N V r : Row), Ch.low r = N ++ 58 :: V → ∃ n v, r = n ++ 58 :: v ∧ Ch.low n = N ∧ Ch.low v = V
  | [], V, r, h => by
    cases r with
    | nil => cases h
    | cons c r =>
      simp only [Ch.low, List.map_cons, List.nil_append, List.cons.injEq] at h
      have hc : c = 58 := Ch.byte_all (P := fun c => Ch.lowB c = 58 → c = 58) (by decide +kernel) c h.1
      exact ⟨[], r, by rw [hc]; rfl, rfl, h.2⟩
  | a :: N, V, r, h => by
    cases r with
    | nil => cases h
    | cons c r =>
      simp only [Ch.low, List.map_cons, List.cons_append, List.cons.injEq] at h
      obtain ⟨n, v, rfl, h1, h2⟩ := low_cut N V r h.2
      exact ⟨c :: n, v, rfl, by simp only [Ch.low, List.map_cons] at h1 ⊢; rw [h.1, h1], h2⟩
theorem more_ne {p : PD} {q : Li.PR} {ps : List PD} {r : Row} (h : q.more p = .ok ps r) : ps ≠ [] := by
  cases q with
  | bad e => cases h
  | ok ps' r' => simp only [Li.PR.more, Li.PR.ok.injEq] at h; rw [← h.1]; simp
theorem prms_none {l r : Row} (h : Li.prms l = .ok [] r) : r = l := by
  rw [Li.prms_step] at h
  split at h
  · split at h
    · cases h
    · split at h
      · split at h
        · cases h
        · exact absurd rfl (more_ne h)
      · cases h
  · cases h; rfl
/-- a line of a name and a value alone is these, a colon between -/
theorem parse_bare {r : Row} {L : LD} (h : parse r = .ok L) (hg : L.group = []) (hp : L.params = []) : r = L.name ++ 58 :: L.value := by
  unfold Li.parse at h
  split at h
  · split at h
    · cases h
    · rename_i g n rest hn
      unfold Li.fin at h
      split at h
      · cases h
      · rename_i ps r2 hps
        split at h
        · rename_i h58
          simp only [Li.LR.ok.injEq] at h
          subst h
          simp only [List.nil_append] at hp
          subst hp
          have e := prms_none hps
          subst e
          simp only at hg
          subst hg
          unfold Li.namesC at hn
          split at hn
          · cases hn
          · rename_i m q hm
            have hm2 := Li.nameC_some hm
            split at hn
            · obtain ⟨p, hp1, hp2⟩ := Option.map_eq_some_iff.1 hn
              simp only [Prod.mk.injEq] at hp2
              have hmn : m ≠ [] := fun e => by
                have q := hm2.2
                rw [e] at q
                revert q; decide
              exact absurd hp2.1 hmn
            · simp only [Option.some.injEq, Prod.mk.injEq] at hn
              obtain ⟨_, rfl, rfl⟩ := hn
              rw [hm2.1]
              cases q with
              | nil => cases h58
              | cons c q => simp at h58; subst h58; rfl
        · cases h
  · cases h
theorem parse_tx {r : Row} {L : LD} (h : parse r = .ok L) : Ch.valid r = true ∧ ends r = false := by
  unfold Li.parse at h
  split at h
  · rename_i ht; exact ht
  · cases h
theorem up_low' {a b : Row} (h : Ch.low a = Ch.low b) : Ch.up a = Ch.up b := by rw [← Ch.up_low a, h, Ch.up_low]
theorem frame_iff {r N V : Row} {L : LD} (h : parse r = .ok L) (hN : Ch.up N = N) (hV : Ch.up V = V) (hb : nameB N = true) : (Ch.low r == Ch.low (N ++ 58 :: V)) = isB L N V := by
  have hl : Ch.low (N ++ 58 :: V) = Ch.low N ++ 58 :: Ch.low V := by rw [Ch.low_append]; rfl
  rw [hl]
  cases hq : isB L N V with
  | true =>
    unfold isB at hq
    simp only [Bool.and_eq_true, decide_eq_true_eq] at hq
    obtain ⟨h1, h2, h3, h4⟩ := hq
    rw [parse_bare h h1 h2, Ch.low_append, beq_iff_eq]
    have e1 : Ch.low L.name = Ch.low N := by rw [← h3, Ch.low_up]
    have e2 : Ch.low L.value = Ch.low V := by rw [← h4, Ch.low_up]
    show Ch.low L.name ++ 58 :: Ch.low L.value = _
    rw [e1, e2]
  | false =>
    rw [beq_eq_false_iff_ne]
    intro e
    obtain ⟨n, v, rfl, h1, h2⟩ := low_cut _ _ r e
    obtain ⟨t1, t2⟩ := parse_tx h
    have hn : Ch.up n = N := by rw [up_low' h1, hN]
    have hv : Ch.up v = V := by rw [up_low' h2, hV]
    have vv := (Li.valid_mid n 58 v t1 (by decide)).2
    have ve : ends v = false := by
      rw [Li.ends_false] at t2 ⊢
      exact ⟨fun hm => t2.1 (by simp [hm]), fun hm => t2.2 (by simp [hm])⟩
    have hG : Li.Good ⟨[], n, [], v⟩ := ⟨.inl rfl, by rw [← nameB_up, hn]; exact hb, fun p hp => by simp at hp, by unfold Li.okT; rw [vv, ve]; rfl⟩
    have hp := Li.parse_pr _ hG
    have epr : pr ⟨[], n, [], v⟩ = n ++ 58 :: v := by unfold Li.pr; rw [if_pos rfl]; rfl
    rw [epr, h] at hp
    injection hp with hp
    rw [hp] at hq
    unfold isB at hq
    rw [decide_eq_true hn, decide_eq_true hv] at hq
    cases hq

/-! ### lines read one behind the other -/
def lnF : List LD → List Row → Nat × List LD
  | acc, [] => (0, acc)
  | acc, r :: rs => match parse r with
    | .bad n => (n, [])
    | .ok L => lnF (acc ++ [L]) rs
theorem lnF_bad {acc : List LD} {r : Row} {rs : List Row} {n : Nat} (h : parse r = .bad n) : lnF acc (r :: rs) = (n, []) := by rw [lnF, h]
theorem lnF_ok {acc : List LD} {r : Row} {rs : List Row} {L : LD} (h : parse r = .ok L) : lnF acc (r :: rs) = lnF (acc ++ [L]) rs := by rw [lnF, h]
/-- all rows are read as these lines -/
def AllP (rows : List Row) (Ls : List LD) : Prop := rows.length = Ls.length ∧ ∀ i (h : i < rows.length) (h' : i < Ls.length), parse rows[i] = .ok Ls[i]
theorem AllP.snoc {rows : List Row} {Ls : List LD} {r : Row} {L : LD} (h : AllP rows Ls) (hr : parse r = .ok L) : AllP (rows ++ [r]) (Ls ++ [L]) := by
  refine ⟨by simp [h.1], fun i h1 h2 => ?_⟩
  by_cases hi : i < rows.length
  · rw [List.getElem_append_left hi, List.getElem_append_left (by have := h.1; omega)]
    exact h.2 i hi (by have := h.1; omega)
  · rw [List.getElem_append_right (by omega), List.getElem_append_right (by have := h.1; omega)]
    simp only [List.getElem_singleton]
    exact hr
/-- the frame, by the lines -/
def framedL (Ls : List LD) : Bool := decide (3 ≤ Ls.length) && (isB (Ls.getD 0 default) wBEGIN wVCARD && (isB (Ls.getD 1 default) wVERSION w40 && isB (Ls.getD (Ls.length - 1) default) wEND wVCARD))
/-- .. by the rows -/
def framedR (rows : List Row) : Bool := decide (3 ≤ rows.length) && ((Ch.low (rows.getD 0 []) == Ch.low bBegin) && ((Ch.low (rows.getD 1 []) == Ch.low bVersion) && (Ch.low (rows.getD (rows.length - 1) []) == Ch.low bEnd)))
theorem framed_eq {rows : List Row} {Ls : List LD} (h : AllP rows Ls) : framedR rows = framedL Ls := by
  unfold framedR framedL
  rw [h.1]
  by_cases h3 : 3 ≤ Ls.length
  · have g : ∀ i, i < Ls.length → parse (rows.getD i []) = .ok (Ls.getD i default) := fun i hi => by
      have := h.2 i (by have := h.1; omega) hi
      rw [List.getD_eq_getElem?_getD, List.getD_eq_getElem?_getD, List.getElem?_eq_getElem (by have := h.1; omega), List.getElem?_eq_getElem hi]
      exact this
    have e1 := frame_iff (N := wBEGIN) (V := wVCARD) (g 0 (by omega)) (by decide) (by decide) (by decide)
    have e2 := frame_iff (N := wVERSION) (V := w40) (g 1 (by omega)) (by decide) (by decide) (by decide)
    have e3 := frame_iff (N := wEND) (V := wVCARD) (g (Ls.length - 1) (by omega)) (by decide) (by decide) (by decide)
    rw [← e1, ← e2, ← e3]; rfl
  · rw [decide_eq_false h3]; rfl
/-- the lines between the frame's -/
def midL (Ls : List LD) : List LD := (Ls.drop 2).take (Ls.length - 1 - 2)
/-- .. of lines read, or their error -/
def pc2 (p : Nat × List LD) : Nat × List LD := if p.1 = 0 then (if framedL p.2 = true ∧ rightB (midL p.2) = true then (0, midL p.2) else (50, [])) else (p.1, [])
/-- .. of rows, if they are -/
def pcR : Option (List Row) → Nat × List LD
  | none => (20, [])
  | some rows => pc2 (lnF [] rows)
/-- what a text is read as -/
def pcard (t : Row) : Nat × List LD :=
  if 65536 < t.length then (11, []) else if Ch.valid t = true then pcR (Fo.R [] t) else (10, [])
theorem pc2_bad {n : Nat} {Ls : List LD} (h : n ≠ 0) : pc2 (n, Ls) = (n, []) := if_neg h
theorem pc2_ok (Ls : List LD) : pc2 (0, Ls) = if framedL Ls = true ∧ rightB (midL Ls) = true then (0, midL Ls) else (50, []) := if_pos rfl
end Go.Proofs.YthnnpnlapjlnoaaGreatDoor.Ca

/-
  THE WALKS OF canonize's TWO CLOSURES: a line's place among the others, and which of two lines comes first.
-/
set_option linter.unusedVariables false
namespace Go.Proofs.YthnnpnlapjlnoaaGreatDoor.Ca
open Go.Shelf Go.RowKit Go.Lib Go.Sort
open Li (LD PD sv)

theorem cmp_lt : ∀ a b : RowB, decide (Lib.compareBytes a b < 0) = lt a b
  | [], [] => rfl
  | [], _ :: _ => rfl
  | _ :: _, [] => rfl
  | a :: x, b :: y => by
    rw [lt_cons, Lib.compareBytes]
    by_cases h : a < b
    · simp [h]
    · by_cases h2 : b < a
      · have : ¬ a = b := fun e => by subst e; exact absurd h2 (UInt8.lt_irrefl a)
        simp [h, h2, this]
      · have e : a = b := by
          apply UInt8.toNat_inj.1
          rw [UInt8.lt_iff_toNat_lt] at h h2
          omega
        subst e
        rw [if_neg h, if_neg h, cmp_lt x y]
        simp
def cfL (x y : LV) : Int := Lib.compareBytes (keyV x) (keyV y)
theorem keyL_fn' {L : LD} {n : ByteArray} (h : sv L.name = .string n) (hn : n = ⟨#[70, 78]⟩) : keyL L = [] := by
  have : L.name = nFN := by
    unfold sv at h
    injection h with h
    rw [← show (⟨L.name.toArray⟩ : ByteArray).data.toList = L.name from rfl, h, hn]; rfl
  exact keyL_fn this
theorem keyL_own' {L : LD} {n : ByteArray} (h : sv L.name = .string n) (hn : ¬ n = ⟨#[70, 78]⟩) : keyL L = n.data.toList := by
  have e : L.name = n.data.toList := by
    unfold sv at h
    injection h with h
    rw [← h]
  have : L.name ≠ nFN := fun e2 => hn (by rw [← Lib.mk_data n, ← e, e2]; rfl)
  rw [keyL_own this, e]

set_option maxHeartbeats 4000000 in
set_option maxRecDepth 100000 in
/-- canonize's place -/
theorem place_any (a1 a2 a4 : ByteArray) (pv : Value) (hpv : ∃ A n c, pv = .slice A n c) (L : LD) (h2 : sv L.name = .string a2) (W : World) :
    Calls Tryz.prog 86 #[.agg #[.string a1, .string a2, pv, .string a4]] W fun e w' => (∃ x : ByteArray, x.data.toList = keyL L ∧ e = .returned (.string x)) ∧ ∃ q os', w' = grow (W.drewN q) os' := by
  obtain ⟨A, n, c, rfl⟩ := hpv
  by_cases hn : a2 = ⟨#[70, 78]⟩
  · have HK := Lib.hid (keyL_fn' h2 hn)
    subst hn
    clear h2
    go_enter Tryz.func86, Tryz.ntmps86
    go_wp2
    go_ret
    exact ⟨⟨⟨#[]⟩, by rw [HK.out], rfl⟩, 0, _, by rw [alloc_eq_grow]; rfl⟩
  · have HK := Lib.hid (keyL_own' h2 hn)
    have g1 := notName (c := [70, 78]) hn
    have e1 := notName' (c := [70, 78]) hn
    clear hn h2
    go_enter Tryz.func86, Tryz.ntmps86
    go_wp2
    go_ret
    exact ⟨⟨a2, by rw [HK.out], rfl⟩, 0, _, by rw [alloc_eq_grow]; rfl⟩
theorem encL_agg (x : LV) : ∃ a1 a2 a4 : ByteArray, ∃ A n c, sv x.1.name = .string a2 ∧ (encL x).toArray = #[.string a1, .string a2, .slice A n c, .string a4] := ⟨_, _, _, _, _, _, rfl, rfl⟩

set_option maxHeartbeats 4000000 in
set_option maxRecDepth 100000 in
theorem before_any (c : Nat) (x y : LV) (W : World) (hc : W.cell? ⟨c, 0, none⟩ = some (.func (.func 86) #[] #[])) (hlt : c < W.heap.size) :
    Calls Tryz.prog 88 (#[.agg (encL x).toArray, .agg (encL y).toArray] ++ #[.pointer (some ⟨c, 0, none⟩)]) W fun e w' => e = .returned (.int .i64 (cfL x y)) ∧ ∃ q os', w' = grow (W.drewN q) os' := by
  obtain ⟨a1, a2, a4, A, n, k, ea, ex⟩ := encL_agg x
  obtain ⟨b1, b2, b4, A', n', k', eb, ey⟩ := encL_agg y
  rw [ex, ey]
  have cx := fun W => place_any a1 a2 a4 (.slice A n k) ⟨A, n, k, rfl⟩ x.1 ea W
  have cy := fun W => place_any b1 b2 b4 (.slice A' n' k') ⟨A', n', k', rfl⟩ y.1 eb W
  obtain ⟨sx, hsx⟩ : ∃ s : ByteArray, s.data.toList = keyL x.1 := ⟨⟨(keyL x.1).toArray⟩, by simp⟩
  obtain ⟨sy, hsy⟩ : ∃ s : ByteArray, s.data.toList = keyL y.1 := ⟨⟨(keyL y.1).toArray⟩, by simp⟩
  have dx : ∀ W, Calls Tryz.prog 86 #[.agg #[.string a1, .string a2, .slice A n k, .string a4]] W fun e w' => e = .returned (.string sx) ∧ ∃ q os', w' = grow (W.drewN q) os' := fun W => (cx W).mono fun e w' ⟨⟨s, h1, h2⟩, h3⟩ => ⟨by
    rw [h2]; rw [show s = sx by rw [← Lib.mk_data s, ← Lib.mk_data sx, h1, hsx]], h3⟩
  have dy : ∀ W, Calls Tryz.prog 86 #[.agg #[.string b1, .string b2, .slice A' n' k', .string b4]] W fun e w' => e = .returned (.string sy) ∧ ∃ q os', w' = grow (W.drewN q) os' := fun W => (cy W).mono fun e w' ⟨⟨s, h1, h2⟩, h3⟩ => ⟨by
    rw [h2]; rw [show s = sy by rw [← Lib.mk_data s, ← Lib.mk_data sy, h1, hsy]], h3⟩
  have cC := fun W => Tryz.strings_Compare sx sy W
  have hcf : cfL x y = Lib.compareBytes sx.data.toList sy.data.toList := by unfold cfL keyV; rw [hsx, hsy]
  obtain ⟨r, hr⟩ : ∃ r, Lib.compareBytes sx.data.toList sy.data.toList = r := ⟨_, rfl⟩
  rw [hr] at cC hcf
  have hcf' := Lib.hid hcf
  have cC2 : ∀ W, Calls Tryz.prog 89 #[.string sx, .string sy] W fun e w' => e = .returned (.int .i64 r) ∧ ∃ q os', w' = grow (W.drewN q) os' := fun W => (cC W).mono fun e w' ⟨h1, h2⟩ => ⟨h1, 0, #[], by rw [h2, grow_empty]; rfl⟩
  have mixed : Tryz.prog.follows .mixedOrders = true := by kernel_rfl
  obtain ⟨w2, hw2⟩ : ∃ w2, (W.alloc (.cells #[.string a1, .string a2, .slice A n k, .string a4] 41)).alloc (.cells #[.string b1, .string b2, .slice A' n' k', .string b4] 41) = w2 := ⟨_, rfl⟩
  have q0 : ∀ m os, (grow (w2.drewN m) os).cell? ⟨c, 0, none⟩ = some (.func (.func 86) #[] #[]) := fun m os => cell_grown (by rw [← hw2]; simp; omega) (by rw [← hw2, World.cell?_alloc_lt _ _ _ (by simp; omega), World.cell?_alloc_lt _ _ _ hlt]; exact hc) m os
  have hz : W.heap.size < w2.heap.size := by rw [← hw2]; simp; omega
  have hz1 : W.heap.size + 1 < w2.heap.size := by rw [← hw2]; simp
  have p0 : ∀ m os, (grow (w2.drewN m) os).cell? ⟨W.heap.size, 0, none⟩ = some (.string a1) := fun m os => cell_grown hz (by rw [← hw2, World.cell?_alloc_lt _ _ _ (by simp)]; simp) m os
  have p1 : ∀ m os, (grow (w2.drewN m) os).cell? ⟨W.heap.size, 1, none⟩ = some (.string a2) := fun m os => cell_grown hz (by rw [← hw2, World.cell?_alloc_lt _ _ _ (by simp)]; simp) m os
  have p2 : ∀ m os, (grow (w2.drewN m) os).cell? ⟨W.heap.size, 2, none⟩ = some (.slice A n k) := fun m os => cell_grown hz (by rw [← hw2, World.cell?_alloc_lt _ _ _ (by simp)]; simp) m os
  have p3 : ∀ m os, (grow (w2.drewN m) os).cell? ⟨W.heap.size, 3, none⟩ = some (.string a4) := fun m os => cell_grown hz (by rw [← hw2, World.cell?_alloc_lt _ _ _ (by simp)]; simp) m os
  have r0 : ∀ m os, (grow (w2.drewN m) os).cell? ⟨W.heap.size + 1, 0, none⟩ = some (.string b1) := fun m os => cell_grown hz1 (by rw [← hw2, World.cell?_alloc_at _ _ _ _ (by simp)]; rfl) m os
  have r1 : ∀ m os, (grow (w2.drewN m) os).cell? ⟨W.heap.size + 1, 1, none⟩ = some (.string b2) := fun m os => cell_grown hz1 (by rw [← hw2, World.cell?_alloc_at _ _ _ _ (by simp)]; rfl) m os
  have r2 : ∀ m os, (grow (w2.drewN m) os).cell? ⟨W.heap.size + 1, 2, none⟩ = some (.slice A' n' k') := fun m os => cell_grown hz1 (by rw [← hw2, World.cell?_alloc_at _ _ _ _ (by simp)]; rfl) m os
  have r3 : ∀ m os, (grow (w2.drewN m) os).cell? ⟨W.heap.size + 1, 3, none⟩ = some (.string b4) := fun m os => cell_grown hz1 (by rw [← hw2, World.cell?_alloc_at _ _ _ _ (by simp)]; rfl) m os
  have hfin : ∀ m os, ∃ q os', grow (w2.drewN m) os = grow (W.drewN q) os' := fun m os => by
    rw [← hw2, alloc_eq_grow, alloc_eq_grow, grow_grow]
    exact ⟨m, _, by show grow (grow (W.drewN m) _) os = _; rw [grow_grow]⟩
  have hfin' := Lib.hid hfin
  clear hc hfin ea eb ex ey cx cy hsx hsy hcf hr cC hlt
  show Calls Tryz.prog 88 #[.agg #[.string a1, .string a2, .slice A n k, .string a4], .agg #[.string b1, .string b2, .slice A' n' k', .string b4], .pointer (some ⟨c, 0, none⟩)] W _
  go_enter Tryz.func88, Tryz.ntmps88
  go_wp2_with fail
  go_quiet_grown (first | (go_at_call 86; first | exact Calls.grown_of (dx _) | exact Calls.grown_of (dy _)) | (go_at_call 89; exact Calls.grown_of (cC2 _)))
  go_wp2
  go_ret
  exact ⟨by rw [hcf'.out] <;> rfl, hfin'.out nq osq⟩

/-- the premise of the sort on its cmp -/
theorem cmpLays_any {w : World} {c g n : Nat} {d0 : Array LV} (hc : w.cell? ⟨c, 0, none⟩ = some (.func (.func 86) #[] #[])) (hlt : c < w.heap.size) (hne : c ≠ g) : CmpLays Tryz.prog 88 #[.pointer (some ⟨c, 0, none⟩)] encL 4 cfL g 0 n w := fun m os dk _ x y => by
  refine before_any c x y _ ?_ (Nat.lt_of_lt_of_le hlt (size_sortWorldK_c encL 4 w g 0 m dk os))
  unfold sortWorldK
  rw [cell?_grow _ _ _ (by rw [size_putRowK]; exact hlt)]
  exact (cell?_putRowK_other (enc := encL) (k := 4) _ g 0 dk ⟨c, 0, none⟩ hne).trans hc
end Go.Proofs.YthnnpnlapjlnoaaGreatDoor.Ca
