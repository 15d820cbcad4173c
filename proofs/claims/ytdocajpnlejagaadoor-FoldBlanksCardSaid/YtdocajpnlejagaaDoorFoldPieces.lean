/-
  PLAIN LAWS OF LAYER fold, the second part: the size of a character, as many characters as fit, the rows of a folded line; what unfolds again.
-/
import Derived.Test.YtdocajpnlejagaaDoorCharPlain
import Derived.Test.YtdocajpnlejagaaDoorFoldPlain
set_option linter.unusedVariables false
namespace Go.Proofs.YtdocajpnlejagaaDoor.Fo
open Go.Lib

def sz (l : Row) : Nat := if (Ch.rune l).2 = 0 then 1 else (Ch.rune l).2
theorem rune_four (l : Row) : (Ch.rune l).2 ≤ 4 := by
  unfold Ch.rune
  by_cases h : l = []
  · rw [if_pos h]; decide
  · rw [if_neg h]
    generalize l.length = n
    have hb0 := (l.getD 0 0).toNat_lt
    generalize (l.getD 0 0).toNat = b0 at hb0 ⊢
    generalize (l.getD 1 0).toNat = b1
    generalize (l.getD 2 0).toNat = b2
    generalize (l.getD 3 0).toNat = b3
    by_cases c1 : b0 < 128
    · rw [Ch.runeN_one _ _ _ _ _ c1]; simp
    by_cases c2 : b0 < 192 ∨ 248 ≤ b0
    · rw [Ch.runeN_none _ _ _ _ _ (by omega)]; simp
    by_cases c3 : b0 < 224
    · rcases Ch.runeN_two n b0 b1 b2 b3 (by omega) c3 with h | h <;> simp [h]
    by_cases c4 : b0 < 240
    · rcases Ch.runeN_three n b0 b1 b2 b3 (by omega) c4 with h | h <;> simp [h]
    · rcases Ch.runeN_four n b0 b1 b2 b3 (by omega) (by omega) with h | h <;> simp [h]
theorem sz_bd (l : Row) : 1 ≤ sz l ∧ sz l ≤ 4 := by
  have := rune_four l
  unfold sz
  split <;> omega
theorem sz_len (l : Row) (h : l ≠ []) : sz l ≤ l.length := by
  have hp := Ch.pos_of_ne h
  unfold sz
  split
  · omega
  · exact (Ch.rune_tells h ‹_›).1
theorem sz_decode (l : Row) (h : l ≠ []) : (decodeL l).2 = sz l := by
  unfold sz
  rw [Ch.rune_eq l h, decodeL_N]
  unfold Ch.runeN
  have hw := decodeL_width l
  rw [decodeL_N] at hw
  generalize decodeN l.length (l.getD 0 0).toNat (l.getD 1 0).toNat (l.getD 2 0).toNat (l.getD 3 0).toNat = d at hw ⊢
  by_cases hd : d = (65533, 1)
  · rw [if_pos hd, hd]; rfl
  · rw [if_neg hd, if_neg (by omega)]
theorem sz_prefix (p q x : Row) (hp : p ≠ []) (hq : 4 ≤ p.length ∨ q = []) : sz (p ++ 13 :: x) = sz (p ++ q) := by
  have hne : p ++ q ≠ [] := by simp [hp]
  have hne2 : p ++ 13 :: x ≠ [] := by simp
  have hpl := Ch.pos_of_ne hp
  by_cases h0 : (Ch.rune (p ++ q)).2 = 0
  · have h1 : (Ch.rune (p ++ 13 :: x)).2 = 0 := by
      rcases Nat.eq_zero_or_pos (Ch.rune (p ++ 13 :: x)).2 with h | h
      · exact h
      · exfalso
        obtain ⟨hw, hc, _⟩ := Ch.rune_tells hne2 (by omega)
        have hk : (Ch.rune (p ++ 13 :: x)).2 ≤ p.length := by
          rcases Nat.lt_or_ge p.length (Ch.rune (p ++ 13 :: x)).2 with hlt | hge
          · have := hc p.length hpl hlt
            have e : (p ++ 13 :: x).getD p.length 0 = 13 := by simp [List.getD_eq_getElem?_getD]
            rw [e] at this
            exact absurd this (by unfold Ch.cont; decide)
          · exact hge
        have e := Ch.rune_take hne2 (by omega) hk
        rw [List.take_left] at e
        have e2 := Ch.rune_append q hp (by rw [e]; omega)
        rw [e2, e] at h0
        omega
    unfold sz
    rw [h0, h1]
  · have hk : (Ch.rune (p ++ q)).2 ≤ p.length := by
      rcases hq with hq | hq
      · have := rune_four (p ++ q); omega
      · subst hq
        have := (Ch.rune_tells hne h0).1
        simpa using this
    have e := Ch.rune_take hne h0 hk
    rw [List.take_left] at e
    have e2 := Ch.rune_append (13 :: x) hp (by rw [e]; exact h0)
    unfold sz
    rw [e2, e]

/-! ### as many as fit -/
def fitF : Nat → Row → Nat → Nat → Nat
  | 0, _, _, n => n
  | f + 1, l, room, n => if n < l.length then (if room < n + sz (l.drop n) then n else fitF f l room (n + sz (l.drop n))) else n
def fit (l : Row) (room : Nat) : Nat := fitF l.length l room 0
theorem fitF_more : ∀ (f g : Nat) (l : Row) (room n : Nat), l.length ≤ n + f → l.length ≤ n + g → fitF f l room n = fitF g l room n
  | 0, 0, _, _, _, _, _ => rfl
  | 0, g + 1, l, room, n, h, _ => by unfold fitF; rw [if_neg (by omega)]
  | f + 1, 0, l, room, n, _, h => by unfold fitF; rw [if_neg (by omega)]
  | f + 1, g + 1, l, room, n, hf, hg => by
    have hs := (sz_bd (l.drop n)).1
    unfold fitF
    by_cases h1 : n < l.length
    · rw [if_pos h1, if_pos h1]
      by_cases h2 : room < n + sz (l.drop n)
      · rw [if_pos h2, if_pos h2]
      · rw [if_neg h2, if_neg h2]
        exact fitF_more f g l room _ (by omega) (by omega)
    · rw [if_neg h1, if_neg h1]
theorem fitF_next (f : Nat) (l : Row) (room n : Nat) (h : l.length ≤ n + f) (h1 : n < l.length) (h2 : ¬ room < n + sz (l.drop n)) : fitF f l room n = fitF f l room (n + sz (l.drop n)) := by
  have hs := (sz_bd (l.drop n)).1
  obtain ⟨g, rfl⟩ : ∃ g, f = g + 1 := ⟨f - 1, by omega⟩
  conv => lhs; unfold fitF
  rw [if_pos h1, if_neg h2]
  exact fitF_more _ _ l room _ (by omega) (by omega)
theorem fitF_stop (f : Nat) (l : Row) (room n : Nat) (h : n < l.length → room < n + sz (l.drop n)) : fitF f l room n = n := by
  cases f with
  | zero => rfl
  | succ f =>
    unfold fitF
    by_cases h1 : n < l.length
    · rw [if_pos h1, if_pos (h h1)]
    · rw [if_neg h1]
theorem fitF_bd : ∀ (f : Nat) (l : Row) (room n : Nat), n ≤ l.length → n ≤ room → l.length ≤ n + f →
    n ≤ fitF f l room n ∧ fitF f l room n ≤ l.length ∧ fitF f l room n ≤ room ∧ (fitF f l room n = l.length ∨ room < fitF f l room n + sz (l.drop (fitF f l room n)))
  | 0, l, room, n, h1, h2, h3 => by unfold fitF; exact ⟨Nat.le_refl _, h1, h2, .inl (by omega)⟩
  | f + 1, l, room, n, h1, h2, h3 => by
    unfold fitF
    by_cases c1 : n < l.length
    · rw [if_pos c1]
      by_cases c2 : room < n + sz (l.drop n)
      · rw [if_pos c2]
        exact ⟨Nat.le_refl _, h1, h2, .inr c2⟩
      · rw [if_neg c2]
        have hne : l.drop n ≠ [] := fun h => by have := List.drop_eq_nil_iff.1 h; omega
        have hs := sz_len _ hne
        rw [List.length_drop] at hs
        have hs1 := (sz_bd (l.drop n)).1
        obtain ⟨i1, i2, i3, i4⟩ := fitF_bd f l room (n + sz (l.drop n)) (by omega) (by omega) (by omega)
        exact ⟨by omega, i2, i3, i4⟩
    · rw [if_neg c1]
      exact ⟨Nat.le_refl _, h1, h2, .inl (by omega)⟩
theorem fit_bd (l : Row) (room : Nat) (hr : 74 ≤ room) (hne : l ≠ []) :
    1 ≤ fit l room ∧ fit l room ≤ l.length ∧ fit l room ≤ room ∧ (l.drop (fit l room) ≠ [] → 4 ≤ fit l room ∧ room < fit l room + sz (l.drop (fit l room))) := by
  obtain ⟨i1, i2, i3, i4⟩ := fitF_bd l.length l room 0 (Nat.zero_le _) (Nat.zero_le _) (by omega)
  have hp := Ch.pos_of_ne hne
  unfold fit
  generalize fitF l.length l room 0 = n at i1 i2 i3 i4
  have hs := sz_bd (l.drop n)
  refine ⟨?_, i2, i3, fun h => ?_⟩
  · omega
  · have : ¬ n = l.length := fun e => h (by rw [e]; simp)
    omega

/-! ### folded lines -/
def foldF : Nat → Row → Nat → Row
  | 0, _, _ => []
  | f + 1, l, room => if l = [] then [] else l.take (fit l room) ++ 13 :: 10 :: (if l.drop (fit l room) = [] then [] else 32 :: foldF f (l.drop (fit l room)) 74)
def foldL (l : Row) : Row := foldF l.length l 75
theorem foldF_more : ∀ (f g : Nat) (l : Row) (room : Nat), 74 ≤ room → l.length ≤ f → l.length ≤ g → foldF f l room = foldF g l room
  | 0, 0, _, _, _, _, _ => rfl
  | 0, g + 1, l, room, _, h, _ => by
    obtain rfl : l = [] := List.eq_nil_of_length_eq_zero (by omega)
    rfl
  | f + 1, 0, l, room, _, _, h => by
    obtain rfl : l = [] := List.eq_nil_of_length_eq_zero (by omega)
    rfl
  | f + 1, g + 1, l, room, hr, hf, hg => by
    unfold foldF
    by_cases h : l = []
    · rw [if_pos h, if_pos h]
    · rw [if_neg h, if_neg h]
      have hb := fit_bd l room hr h
      by_cases h2 : l.drop (fit l room) = []
      · rw [if_pos h2, if_pos h2]
      · rw [if_neg h2, if_neg h2, foldF_more f g (l.drop (fit l room)) 74 (by omega) (by rw [List.length_drop]; omega) (by rw [List.length_drop]; omega)]
theorem foldF_nil (f room : Nat) : foldF f [] room = [] := by cases f <;> rfl
theorem foldF_step (f : Nat) (l : Row) (room : Nat) (hr : 74 ≤ room) (hne : l ≠ []) (h : l.length ≤ f) :
    foldF f l room = l.take (fit l room) ++ 13 :: 10 :: (if l.drop (fit l room) = [] then [] else 32 :: foldF f (l.drop (fit l room)) 74) := by
  have hp := Ch.pos_of_ne hne
  have hb := fit_bd l room hr hne
  obtain ⟨g, rfl⟩ : ∃ g, f = g + 1 := ⟨f - 1, by omega⟩
  conv => lhs; unfold foldF
  rw [if_neg hne, foldF_more g (g + 1) (l.drop (fit l room)) 74 (by omega) (by rw [List.length_drop]; omega) (by rw [List.length_drop]; omega)]
theorem foldF_len : ∀ (f : Nat) (l : Row) (room : Nat), 74 ≤ room → (foldF f l room).length ≤ 4 * l.length
  | 0, l, _, _ => by simp [foldF]
  | f + 1, l, room, hr => by
    unfold foldF
    by_cases h : l = []
    · rw [if_pos h]; simp
    · rw [if_neg h]
      have hb := fit_bd l room hr h
      by_cases h2 : l.drop (fit l room) = []
      · rw [if_pos h2]
        simp only [List.length_append, List.length_cons, List.length_nil, List.length_take]
        omega
      · rw [if_neg h2]
        have := foldF_len f (l.drop (fit l room)) 74 (by omega)
        rw [List.length_drop] at this
        have h4 := (hb.2.2.2 h2).1
        simp only [List.length_append, List.length_cons, List.length_take]
        omega

/-! ### unfolded again -/
def plain (l : Row) : Prop := 13 ∉ l ∧ 10 ∉ l
theorem plain_take (l : Row) (k : Nat) (h : plain l) : plain (l.take k) := ⟨fun hm => h.1 (List.mem_of_mem_take hm), fun hm => h.2 (List.mem_of_mem_take hm)⟩
theorem plain_drop (l : Row) (k : Nat) (h : plain l) : plain (l.drop k) := ⟨fun hm => h.1 (List.mem_of_mem_drop hm), fun hm => h.2 (List.mem_of_mem_drop hm)⟩
theorem ok_of (l : Row) (hne : l ≠ []) (h : 13 ∉ l) : okRow l = true := by
  unfold okRow
  cases l with
  | nil => exact absurd rfl hne
  | cons x l => simpa using h
theorem R_row (out : List Row) (a t : Row) (cr : Bool) (h : plain a) : R out (a ++ (if cr then [13] else []) ++ 10 :: t) = (gstep out a).bind fun o => R o t := by
  cases cr
  · rw [if_neg (by decide), List.append_nil, R_cut out a t h.2, strip_no a h.1]
  · rw [if_pos rfl, R_cut out (a ++ [13]) t (fun hm => by rcases List.mem_append.1 hm with hm | hm; exact h.2 hm; simp at hm), strip_snoc]
/-- a row that goes on -/
theorem R_on (out : List Row) (pre q t : Row) (b : UInt8) (cr : Bool) (hb : bl b = true) (h : plain q) : R (out ++ [pre]) (b :: q ++ (if cr then [13] else []) ++ 10 :: t) = R (out ++ [pre ++ q]) t := by
  have hb2 : b.toNat = 32 ∨ b.toNat = 9 := of_decide_eq_true hb
  have hp : plain (b :: q) := ⟨fun hm => by
      rcases List.mem_cons.1 hm with hm | hm
      · rw [← hm] at hb2; revert hb2; decide
      · exact h.1 hm, fun hm => by
      rcases List.mem_cons.1 hm with hm | hm
      · rw [← hm] at hb2; revert hb2; decide
      · exact h.2 hm⟩
  rw [R_row (out ++ [pre]) (b :: q) t cr hp, gstep_more out pre (b :: q) (ok_of _ (by simp) hp.1) hb]
  rfl
theorem R_rest : ∀ (f : Nat) (out : List Row) (pre l t : Row), plain l → l ≠ [] → l.length ≤ f → R (out ++ [pre]) (32 :: foldF f l 74 ++ t) = R (out ++ [pre ++ l]) t
  | 0, _, _, l, _, _, hne, h => absurd (List.eq_nil_of_length_eq_zero (by omega)) hne
  | f + 1, out, pre, l, t, hp, hne, h => by
    have hb := fit_bd l 74 (by omega) hne
    unfold foldF
    rw [if_neg hne]
    have e : ∀ u : Row, (32 : UInt8) :: (l.take (fit l 74) ++ 13 :: 10 :: u) ++ t = 32 :: l.take (fit l 74) ++ (if true then [13] else []) ++ 10 :: (u ++ t) := fun u => by simp
    rw [e, R_on out pre _ _ 32 true (by decide) (plain_take l _ hp)]
    by_cases h2 : l.drop (fit l 74) = []
    · rw [if_pos h2]
      have : l.take (fit l 74) = l := by conv => rhs; rw [← List.take_append_drop (fit l 74) l, h2, List.append_nil]
      rw [this]
      rfl
    · rw [if_neg h2, R_rest f out (pre ++ l.take (fit l 74)) (l.drop (fit l 74)) t (plain_drop l _ hp) h2 (by rw [List.length_drop]; omega), List.append_assoc, List.take_append_drop]
theorem goodL_tells (l : Row) (h : goodL l = true) : l ≠ [] ∧ headBl l = false ∧ plain l := by
  unfold goodL at h
  simp only [Bool.and_eq_true, Bool.not_eq_true'] at h
  obtain ⟨⟨⟨h1, h2⟩, h3⟩, h4⟩ := h
  exact ⟨fun e => by rw [e] at h1; simp at h1, h2, by simpa using h3, by simpa using h4⟩
theorem headBl_take (l : Row) (k : Nat) (hk : 1 ≤ k) : headBl (l.take k) = headBl l := by
  cases l with
  | nil => simp
  | cons x l =>
    obtain ⟨j, rfl⟩ : ∃ j, k = j + 1 := ⟨k - 1, by omega⟩
    rfl
theorem R_line (out : List Row) (l t : Row) (h : goodL l = true) : R out (foldL l ++ t) = R (out ++ [l]) t := by
  obtain ⟨hne, hb, hp⟩ := goodL_tells l h
  have hf := fit_bd l 75 (by omega) hne
  unfold foldL
  rw [foldF_step _ l 75 (by omega) hne (Nat.le_refl _)]
  have e : ∀ u : Row, l.take (fit l 75) ++ 13 :: 10 :: u ++ t = l.take (fit l 75) ++ (if true then [13] else []) ++ 10 :: (u ++ t) := fun u => by simp
  have hne2 : l.take (fit l 75) ≠ [] := fun h0 => by
    rcases List.take_eq_nil_iff.1 h0 with h0 | h0
    · omega
    · exact hne h0
  rw [e, R_row out _ _ true (plain_take l _ hp), gstep_new out _ (ok_of _ hne2 (plain_take l _ hp).1) (by rw [headBl_take l _ hf.1]; exact hb)]
  show R (out ++ [l.take (fit l 75)]) _ = _
  by_cases h2 : l.drop (fit l 75) = []
  · rw [if_pos h2]
    have : l.take (fit l 75) = l := by conv => rhs; rw [← List.take_append_drop (fit l 75) l, h2, List.append_nil]
    rw [this]
    rfl
  · rw [if_neg h2, R_rest _ out (l.take (fit l 75)) (l.drop (fit l 75)) t (plain_drop l _ hp) h2 (by rw [List.length_drop]; omega), List.take_append_drop]
def foldAll (ls : List Row) : Row := (ls.map foldL).flatten
theorem R_all : ∀ (ls out : List Row), (∀ l ∈ ls, goodL l = true) → R out (foldAll ls) = some (out ++ ls)
  | [], out, _ => by rw [List.append_nil]; rfl
  | l :: ls, out, h => by
    have e : foldAll (l :: ls) = foldL l ++ foldAll ls := by simp [foldAll]
    rw [e, R_line out l _ (h l (by simp)), R_all ls (out ++ [l]) (fun x hx => h x (by simp [hx]))]
    simp
theorem foldAll_len (ls : List Row) : (foldAll ls).length ≤ 4 * tot ls := by
  induction ls with
  | nil => simp [foldAll]
  | cons l ls ih =>
    have e : foldAll (l :: ls) = foldL l ++ foldAll ls := by simp [foldAll]
    have e2 : tot (l :: ls) = l.length + 1 + tot ls := by simp [tot]
    have h1 : (foldL l).length ≤ 4 * l.length := foldF_len _ l 75 (by omega)
    rw [e, List.length_append]
    omega

/-! ### rows of a folded line -/
inductive Rws : Row → Prop
  | nil : Rws []
  | row (r t : Row) (h1 : 13 ∉ r) (h2 : r.length ≤ 75) (h3 : t ≠ [] → ∃ u, t = 32 :: u ∧ u ≠ [] ∧ 75 < r.length + sz u) (h4 : Rws t) : Rws (r ++ 13 :: 10 :: t)
theorem foldF_front (f : Nat) (l : Row) (hne : l ≠ []) (h : l.length ≤ f) : sz (foldF f l 74) = sz l ∧ foldF f l 74 ≠ [] := by
  have hb := fit_bd l 74 (by omega) hne
  rw [foldF_step f l 74 (by omega) hne h]
  have hne2 : l.take (fit l 74) ≠ [] := fun h0 => by
    rcases List.take_eq_nil_iff.1 h0 with h0 | h0
    · omega
    · exact hne h0
  refine ⟨?_, by simp⟩
  rw [sz_prefix (l.take (fit l 74)) (l.drop (fit l 74)) _ hne2 ?_, List.take_append_drop]
  by_cases h2 : l.drop (fit l 74) = []
  · exact .inr h2
  · refine .inl ?_
    have := (hb.2.2.2 h2).1
    rw [List.length_take]
    omega
theorem rws_rest : ∀ (f : Nat) (l : Row), plain l → l ≠ [] → l.length ≤ f → Rws (32 :: foldF f l 74)
  | 0, l, _, hne, h => absurd (List.eq_nil_of_length_eq_zero (by omega)) hne
  | f + 1, l, hp, hne, h => by
    have hb := fit_bd l 74 (by omega) hne
    rw [foldF_step (f + 1) l 74 (by omega) hne h]
    rw [← List.cons_append]
    refine .row _ _ ?_ ?_ ?_ ?_
    · intro hm
      rcases List.mem_cons.1 hm with hm | hm
      · revert hm; decide
      · exact (plain_take l _ hp).1 hm
    · simp only [List.length_cons, List.length_take]; omega
    · intro ht
      by_cases h2 : l.drop (fit l 74) = []
      · exact absurd (if_pos h2) ht
      · rw [if_neg h2]
        have hl : (l.drop (fit l 74)).length ≤ f + 1 := by rw [List.length_drop]; omega
        obtain ⟨e1, e2⟩ := foldF_front (f + 1) _ h2 hl
        refine ⟨_, rfl, e2, ?_⟩
        rw [e1]
        have := (hb.2.2.2 h2).2
        simp only [List.length_cons, List.length_take]
        omega
    · by_cases h2 : l.drop (fit l 74) = []
      · rw [if_pos h2]; exact .nil
      · rw [if_neg h2, foldF_more (f + 1) f _ 74 (by omega) (by rw [List.length_drop]; omega) (by rw [List.length_drop]; omega)]
        exact rws_rest f _ (plain_drop l _ hp) h2 (by rw [List.length_drop]; omega)
theorem rws_line (l : Row) (hp : plain l) (hne : l ≠ []) : Rws (foldL l) := by
  have hb := fit_bd l 75 (by omega) hne
  unfold foldL
  rw [foldF_step _ l 75 (by omega) hne (Nat.le_refl _)]
  refine .row _ _ (plain_take l _ hp).1 (by rw [List.length_take]; omega) ?_ ?_
  · intro ht
    by_cases h2 : l.drop (fit l 75) = []
    · exact absurd (if_pos h2) ht
    · rw [if_neg h2]
      have hl : (l.drop (fit l 75)).length ≤ l.length := by rw [List.length_drop]; omega
      obtain ⟨e1, e2⟩ := foldF_front l.length _ h2 hl
      refine ⟨_, rfl, e2, ?_⟩
      rw [e1]
      have := (hb.2.2.2 h2).2
      simp only [List.length_take]
      omega
  · by_cases h2 : l.drop (fit l 75) = []
    · rw [if_pos h2]; exact .nil
    · rw [if_neg h2]
      exact rws_rest _ _ (plain_drop l _ hp) h2 (by rw [List.length_drop]; omega)
end Go.Proofs.YtdocajpnlejagaaDoor.Fo
