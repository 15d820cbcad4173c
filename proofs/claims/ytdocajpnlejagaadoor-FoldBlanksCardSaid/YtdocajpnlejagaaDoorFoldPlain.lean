/-
  PLAIN LAWS OF LAYER fold: nothing of the program is run here. Rows and lines of a text ('R': what the rows of a text make of the lines so far), good lines, the size of a character, pieces of a folded line.
-/
import Derived.Lib.Strings
import Derived.Lib.IndexMore
set_option linter.unusedVariables false
namespace Go.Proofs.YtdocajpnlejagaaDoor.Fo
open Go.Lib

abbrev Row := List UInt8
def bl (x : UInt8) : Bool := decide (x.toNat = 32 ∨ x.toNat = 9)
def headBl : Row → Bool
  | [] => false
  | x :: _ => bl x
def stripR (l : Row) : Row := trimSuffix l [13]
def okRow (r : Row) : Bool := !r.isEmpty && !r.contains 13
def gstep (out : List Row) (r : Row) : Option (List Row) :=
  if okRow r = true then (if headBl r = true then (if out = [] then none else some (out.dropLast ++ [out.getLast?.getD [] ++ r.tail])) else some (out ++ [r])) else none
def rowsStep (p : List Row × Row) (x : UInt8) : List Row × Row := if x = 10 then (p.1 ++ [stripR p.2], []) else (p.1, p.2 ++ [x])
def rows (t : Row) : List Row × Row := t.foldl rowsStep ([], [])
def run (out : List Row) : List Row → Option (List Row)
  | [] => some out
  | r :: rs => (gstep out r).bind fun o => run o rs
def R (out : List Row) (t : Row) : Option (List Row) := if (rows t).2 = [] then run out (rows t).1 else none

theorem run_append (out : List Row) (a b : List Row) : run out (a ++ b) = (run out a).bind fun o => run o b := by
  induction a generalizing out with
  | nil => rfl
  | cons r a ih =>
    simp only [List.cons_append, run]
    cases gstep out r with
    | none => rfl
    | some o => simpa using ih o

theorem fold_rows (p : List Row) (c t : Row) : t.foldl rowsStep (p, c) = (p ++ (t.foldl rowsStep ([], c)).1, (t.foldl rowsStep ([], c)).2) := by
  induction t generalizing p c with
  | nil => simp
  | cons x t ih =>
    simp only [List.foldl_cons]
    by_cases h : x = 10
    · simp only [rowsStep, h, if_true, List.nil_append]
      rw [ih (p ++ [stripR c]) [], ih [stripR c] []]
      simp
    · simp only [rowsStep, h, if_false]
      exact ih p (c ++ [x])

theorem fold_free (p : List Row) (c a : Row) (h : 10 ∉ a) : a.foldl rowsStep (p, c) = (p, c ++ a) := by
  induction a generalizing c with
  | nil => simp
  | cons x a ih =>
    have hx : x ≠ 10 := fun e => h (by simp [e])
    simp only [List.foldl_cons, rowsStep, hx, if_false]
    rw [ih (c ++ [x]) (fun hm => h (by simp [hm]))]
    simp

theorem rows_cut (a t : Row) (h : 10 ∉ a) : rows (a ++ 10 :: t) = (stripR a :: (rows t).1, (rows t).2) := by
  unfold rows
  rw [List.foldl_append, fold_free _ _ _ h, List.foldl_cons]
  simp only [rowsStep, if_true, List.nil_append]
  rw [fold_rows]
  rfl
theorem R_nil (out : List Row) : R out [] = some out := rfl
theorem R_cut (out : List Row) (a t : Row) (h : 10 ∉ a) : R out (a ++ 10 :: t) = (gstep out (stripR a)).bind fun o => R o t := by
  unfold R
  rw [rows_cut a t h]
  by_cases hr : (rows t).2 = []
  · simp only [hr, if_true, run]
  · simp only [hr, if_false]
    cases gstep out (stripR a) <;> rfl
theorem R_free (out : List Row) (t : Row) (h : 10 ∉ t) (hne : t ≠ []) : R out t = none := by
  unfold R rows
  rw [fold_free _ _ _ h]
  simp [hne]

/-- a text cut at its first line feed -/
theorem cut_feed (t : Row) : (10 ∉ t ∧ cut t [10] = (t, [], false)) ∨ ∃ a r, 10 ∉ a ∧ t = a ++ 10 :: r ∧ cut t [10] = (a, r, true) := by
  induction t with
  | nil => left; exact ⟨by simp, by decide⟩
  | cons x t ih =>
    by_cases hx : x = 10
    · subst hx
      right
      refine ⟨[], t, by simp, rfl, ?_⟩
      have : index (10 :: t) [10] = 0 := by unfold index; simp
      unfold cut
      rw [this]
      simp
    · have hp : ([10] : Row).isPrefixOf (x :: t) = false := by simp [List.isPrefixOf]; exact fun h => hx h.symm
      have hi : index (x :: t) [10] = if index t [10] == -1 then -1 else index t [10] + 1 := by
        conv => lhs; unfold index
        rw [hp]; simp
      have hge := index_ge t [10]
      rcases ih with ⟨h1, h2⟩ | ⟨a, r, h1, h2, h3⟩
      · left
        have hn : ¬ 0 ≤ index t [10] := fun h => by unfold cut at h2; rw [if_pos h] at h2; simp at h2
        have h' : index (x :: t) [10] = -1 := by rw [hi, if_pos (by simp; omega)]
        refine ⟨by simp [h1]; exact fun h => hx h.symm, ?_⟩
        unfold cut
        rw [h', if_neg (by omega)]
      · right
        have hn : 0 ≤ index t [10] := by
          rcases Int.lt_or_le (index t [10]) 0 with h | h
          · unfold cut at h3; rw [if_neg (by omega)] at h3; simp at h3
          · exact h
        have h' : index (x :: t) [10] = index t [10] + 1 := by rw [hi, if_neg (by simp; omega)]
        refine ⟨x :: a, r, by simp [h1]; exact fun h => hx h.symm, by rw [h2]; rfl, ?_⟩
        unfold cut at h3 ⊢
        rw [if_pos hn] at h3
        rw [h', if_pos (by omega)]
        simp only [Prod.mk.injEq] at h3
        obtain ⟨e1, e2, _⟩ := h3
        have e : (index t [10] + 1).toNat = (index t [10]).toNat + 1 := by omega
        rw [e, show (index t [10]).toNat + 1 + ([10] : Row).length = ((index t [10]).toNat + ([10] : Row).length) + 1 by omega, List.drop_succ_cons, List.take_succ_cons, e1, e2]

theorem contains_one (t : Row) (c : UInt8) : Lib.contains t [c] = t.contains c := by
  induction t with
  | nil => rfl
  | cons x t ih =>
    have hge := index_ge t [c]
    unfold Lib.contains at ih ⊢
    conv => lhs; unfold index
    by_cases hx : c = x
    · subst hx; simp
    · have hp : ([c] : Row).isPrefixOf (x :: t) = false := by simp [List.isPrefixOf, hx]
      rw [hp]
      have : (x :: t).contains c = t.contains c := by simp [hx]
      rw [this, ← ih]
      by_cases h : index t [c] = -1
      · simp [h]
      · have h1 : (index t [c] == -1) = false := by simpa using h
        simp only [Bool.false_eq_true, if_false, h1]
        rw [decide_eq_true (show (0 : Int) ≤ index t [c] + 1 by omega), decide_eq_true (show (0 : Int) ≤ index t [c] by omega)]

/-! ### rows -/
theorem strip_snoc (a : Row) : stripR (a ++ [13]) = a := by
  unfold stripR trimSuffix hasSuffix
  rw [if_pos (by simp)]
  simp
theorem strip_no (a : Row) (h : 13 ∉ a) : stripR a = a := by
  unfold stripR trimSuffix hasSuffix
  rw [if_neg]
  intro hs
  have := List.isSuffixOf_iff_suffix.1 hs
  exact h (this.subset (by simp))
theorem strip_cases (a : Row) : stripR a = a ∨ a = stripR a ++ [13] := by
  unfold stripR trimSuffix hasSuffix
  by_cases h : ([13] : Row).isSuffixOf a = true
  · right
    rw [if_pos h]
    obtain ⟨b, hb⟩ := List.isSuffixOf_iff_suffix.1 h
    subst hb
    simp
  · left; rw [if_neg h]
theorem strip_head (a : Row) (h : stripR a ≠ []) : headBl (stripR a) = headBl a ∧ ∃ x r, a = x :: r ∧ headBl (stripR a) = bl x := by
  rcases strip_cases a with e | e
  · rw [e] at h ⊢
    cases a with
    | nil => exact absurd rfl h
    | cons x r => exact ⟨rfl, x, r, rfl, rfl⟩
  · generalize stripR a = b at e h
    subst e
    cases b with
    | nil => exact absurd rfl h
    | cons x r => exact ⟨rfl, x, r ++ [13], rfl, rfl⟩
theorem strip_len (a : Row) : (stripR a).length ≤ a.length := trimSuffix_le a [13]

theorem gstep_bad (out : List Row) (r : Row) (h : okRow r = false) : gstep out r = none := by unfold gstep; rw [h]; rfl
theorem gstep_new (out : List Row) (r : Row) (h : okRow r = true) (hb : headBl r = false) : gstep out r = some (out ++ [r]) := by unfold gstep; rw [h, hb]; rfl
theorem gstep_none (r : Row) (hb : headBl r = true) : gstep [] r = none := by
  unfold gstep
  rw [hb]
  cases okRow r <;> rfl
theorem gstep_more (out : List Row) (l r : Row) (h : okRow r = true) (hb : headBl r = true) : gstep (out ++ [l]) r = some (out ++ [l ++ r.tail]) := by
  unfold gstep
  rw [h, hb]
  simp

/-! ### good lines -/
def goodL (l : Row) : Bool := !l.isEmpty && !headBl l && !l.contains 13 && !l.contains 10

theorem head_tail (r : Row) (h : okRow r = true) (hb : headBl r = false) (hn : 10 ∉ r) : goodL r = true := by
  unfold okRow at h
  unfold goodL
  simp only [Bool.and_eq_true, Bool.not_eq_true'] at h ⊢
  refine ⟨⟨⟨h.1, hb⟩, h.2⟩, ?_⟩
  simpa using hn
theorem good_more (l r : Row) (h : goodL l = true) (hr : okRow r = true) (hn : 10 ∉ r) : goodL (l ++ r.tail) = true := by
  unfold okRow at hr
  unfold goodL at h ⊢
  simp only [Bool.and_eq_true, Bool.not_eq_true'] at h hr ⊢
  obtain ⟨⟨⟨h1, h2⟩, h3⟩, h4⟩ := h
  cases l with
  | nil => simp at h1
  | cons x l =>
    refine ⟨⟨⟨by simp, h2⟩, ?_⟩, ?_⟩
    · have hh : 13 ∉ x :: l := by simpa using h3
      have hh2 : 13 ∉ r := by simpa using hr.2
      have : 13 ∉ (x :: l) ++ r.tail := fun hm => by
        rcases List.mem_append.1 hm with hm | hm
        · exact hh hm
        · exact hh2 (List.mem_of_mem_tail hm)
      simpa using this
    · have hh : 10 ∉ x :: l := by simpa using h4
      have : 10 ∉ (x :: l) ++ r.tail := fun hm => by
        rcases List.mem_append.1 hm with hm | hm
        · exact hh hm
        · exact hn (List.mem_of_mem_tail hm)
      simpa using this

theorem gstep_good (out o : List Row) (r : Row) (h : ∀ l ∈ out, goodL l = true) (hn : 10 ∉ r) (hg : gstep out r = some o) : ∀ l ∈ o, goodL l = true := by
  unfold gstep at hg
  by_cases h1 : okRow r = true
  · rw [if_pos h1] at hg
    by_cases h2 : headBl r = true
    · rw [if_pos h2] at hg
      by_cases h3 : out = []
      · rw [if_pos h3] at hg; cases hg
      · rw [if_neg h3] at hg
        obtain rfl := Option.some.inj hg
        intro l hl
        rcases List.mem_append.1 hl with hl | hl
        · exact h l ((List.dropLast_sublist out).subset hl)
        · obtain rfl : l = _ := by simpa using hl
          rw [List.getLast?_eq_some_getLast h3]
          exact good_more _ r (h _ (List.getLast_mem h3)) h1 hn
    · rw [if_neg h2] at hg
      obtain rfl := Option.some.inj hg
      intro l hl
      rcases List.mem_append.1 hl with hl | hl
      · exact h l hl
      · obtain rfl : l = r := by simpa using hl
        exact head_tail l h1 (by simpa using h2) hn
  · rw [if_neg h1] at hg; cases hg

theorem rows_no (t : Row) : ∀ (p : List Row) (c : Row), (∀ r ∈ p, 10 ∉ r) → 10 ∉ c → ∀ r ∈ (t.foldl rowsStep (p, c)).1, 10 ∉ r := by
  induction t with
  | nil => intro p c hp _; exact hp
  | cons x t ih =>
    intro p c hp hc
    simp only [List.foldl_cons]
    by_cases hx : x = 10
    · simp only [rowsStep, hx, if_true]
      refine ih _ _ (fun r hr => ?_) (by simp)
      rcases List.mem_append.1 hr with hr | hr
      · exact hp r hr
      · obtain rfl : r = stripR c := by simpa using hr
        intro hm
        rcases strip_cases c with e | e
        · rw [e] at hm; exact hc hm
        · exact hc (by rw [e]; exact List.mem_append_left _ hm)
    · simp only [rowsStep, hx, if_false]
      refine ih _ _ hp (fun hm => ?_)
      rcases List.mem_append.1 hm with hm | hm
      · exact hc hm
      · exact hx (List.mem_singleton.1 hm).symm
theorem run_good : ∀ (rs : List Row) (out o : List Row), (∀ l ∈ out, goodL l = true) → (∀ r ∈ rs, 10 ∉ r) → run out rs = some o → ∀ l ∈ o, goodL l = true
  | [], out, o, h, _, hr => by
    obtain rfl := Option.some.inj hr
    exact h
  | r :: rs, out, o, h, hn, hr => by
    unfold run at hr
    cases hg : gstep out r with
    | none => rw [hg] at hr; cases hr
    | some o1 =>
      rw [hg] at hr
      exact run_good rs o1 o (gstep_good out o1 r h (hn r (by simp)) hg) (fun x hx => hn x (by simp [hx])) hr
theorem R_good (t : Row) (o : List Row) (h : R [] t = some o) : ∀ l ∈ o, goodL l = true := by
  unfold R at h
  by_cases hc : (rows t).2 = []
  · rw [if_pos hc] at h
    exact run_good _ [] o (by simp) (rows_no t [] [] (by simp) (by simp)) h
  · rw [if_neg hc] at h; cases h

/-! ### how much there is -/
def tot (ls : List Row) : Nat := (ls.map fun l => l.length + 1).sum
theorem tot_append (a b : List Row) : tot (a ++ b) = tot a + tot b := by simp [tot]
theorem gstep_tot (out o : List Row) (r : Row) (h : gstep out r = some o) : tot o ≤ tot out + r.length + 1 := by
  unfold gstep at h
  by_cases h1 : okRow r = true
  · rw [if_pos h1] at h
    by_cases h2 : headBl r = true
    · rw [if_pos h2] at h
      by_cases h3 : out = []
      · rw [if_pos h3] at h; cases h
      · rw [if_neg h3] at h
        obtain rfl := Option.some.inj h
        rw [List.getLast?_eq_some_getLast h3]
        have e : tot out = tot out.dropLast + ((out.getLast h3).length + 1) := by
          conv => lhs; rw [← List.dropLast_concat_getLast h3]
          rw [tot_append]; simp [tot]
        rw [tot_append, e]
        have : r.tail.length ≤ r.length := by simp
        simp [tot]
        omega
    · rw [if_neg h2] at h
      obtain rfl := Option.some.inj h
      rw [tot_append]
      simp [tot]
      omega
  · rw [if_neg h1] at h; cases h
theorem run_tot : ∀ (rs : List Row) (out o : List Row), run out rs = some o → tot o ≤ tot out + tot rs
  | [], out, o, h => by obtain rfl := Option.some.inj h; omega
  | r :: rs, out, o, h => by
    unfold run at h
    cases hg : gstep out r with
    | none => rw [hg] at h; cases h
    | some o1 =>
      rw [hg] at h
      have h1 := gstep_tot out o1 r hg
      have h2 := run_tot rs o1 o h
      have : tot (r :: rs) = r.length + 1 + tot rs := by simp [tot]
      omega
theorem fold_tot (t : Row) : ∀ (p : List Row) (c : Row), tot (t.foldl rowsStep (p, c)).1 + (t.foldl rowsStep (p, c)).2.length ≤ tot p + c.length + t.length := by
  induction t with
  | nil => intro p c; simp
  | cons x t ih =>
    intro p c
    simp only [List.foldl_cons, List.length_cons]
    by_cases hx : x = 10
    · simp only [rowsStep, hx, if_true]
      have h := ih (p ++ [stripR c]) []
      have hl := strip_len c
      have e : tot (p ++ [stripR c]) = tot p + ((stripR c).length + 1) := by rw [tot_append]; simp [tot]
      simp only [List.length_nil] at h
      omega
    · simp only [rowsStep, hx, if_false]
      have h := ih p (c ++ [x])
      simp only [List.length_append, List.length_cons, List.length_nil] at h
      omega
theorem R_tot (t : Row) (o : List Row) (h : R [] t = some o) : tot o ≤ t.length := by
  unfold R at h
  by_cases hc : (rows t).2 = []
  · rw [if_pos hc] at h
    have h1 := run_tot _ _ _ h
    have h2 : tot (rows t).1 + (rows t).2.length ≤ tot [] + 0 + t.length := fold_tot t [] []
    have h3 : tot ([] : List Row) = 0 := rfl
    omega
  · rw [if_neg hc] at h; cases h
theorem tot_len (o : List Row) : o.length ≤ tot o := by
  induction o with
  | nil => simp
  | cons x o ih =>
    have : tot (x :: o) = x.length + 1 + tot o := by simp [tot]
    simp only [List.length_cons]
    omega
theorem tot_get (o : List Row) (l : Row) (h : l ∈ o) : l.length + 1 ≤ tot o := by
  induction o with
  | nil => simp at h
  | cons x o ih =>
    have e : tot (x :: o) = x.length + 1 + tot o := by simp [tot]
    rcases List.mem_cons.1 h with rfl | h
    · omega
    · have := ih h; omega
end Go.Proofs.YtdocajpnlejagaaDoor.Fo
