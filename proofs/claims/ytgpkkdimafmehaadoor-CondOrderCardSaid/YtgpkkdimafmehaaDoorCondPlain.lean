/-
  PLAIN LAWS OF LAYER cond: tags as they are written and read ('tagS', 'par'), a condition parted at its commas ('spl', 'tagsOf', 'cond'), what it says of a tag ('nam', 'hol'). Nothing of the program is run here.
-/
import Derived.Test.YtgpkkdimafmehaaDoorCharDecPlain
import Derived.Test.YtgpkkdimafmehaaDoorHttpTrim
set_option linter.unusedVariables false
namespace Go.Proofs.YtgpkkdimafmehaaDoor.Co
open Go.Lib

abbrev Row := List UInt8
abbrev bl := Ht.bl
abbrev trim := Ht.trim
def most : Nat := 4611686018427387904
def tagS (n : Nat) : Row := 34 :: (decDigits n ++ [34])
/-- how a whole number is written as a tag -/
def tagI (z : Int) : Row := if z < 1 ∨ 4611686018427387904 < z then [] else tagS z.toNat
/-- the tag that a row is; 0: none -/
def par (l : Row) : Nat := if 2 ≤ l.length ∧ l.head? = some 34 ∧ l.getLast? = some 34 then (Ch.numS (l.drop 1).dropLast most).1 else 0
theorem par_le (l : Row) : par l ≤ most := by
  unfold par
  split
  · exact Ch.numS_le _ _
  · exact Nat.zero_le _
theorem par_marks (d : Row) : par (34 :: (d ++ [34])) = (Ch.numS d most).1 := by
  unfold par
  rw [if_pos]
  · simp
  · refine ⟨by simp, rfl, ?_⟩
    rw [show (34 : UInt8) :: (d ++ [34]) = (34 :: d) ++ [34] from rfl, List.getLast?_append]; rfl
theorem par_tag {n : Nat} (h : n ≤ most) : par (tagS n) = n := by
  unfold tagS
  rw [par_marks, Ch.numS_dec, if_pos h]
theorem par_tagI (z : Int) : (par (tagI z) : Int) = if z < 1 ∨ 4611686018427387904 < z then 0 else z := by
  unfold tagI
  split
  · rfl
  · rw [par_tag (by unfold most; omega)]
    omega
theorem tagI_empty (z : Int) : tagI z = [] ↔ (z < 1 ∨ 4611686018427387904 < z) := by
  unfold tagI
  split
  · simp_all
  · simp_all [tagS]
/-- a row is two marks with something between, or no tag -/
theorem par_form (l : Row) : (∃ d, l = 34 :: (d ++ [34]) ∧ par l = (Ch.numS d most).1) ∨ ((¬ ∃ d, l = 34 :: (d ++ [34])) ∧ par l = 0) := by
  by_cases h : 2 ≤ l.length ∧ l.head? = some 34 ∧ l.getLast? = some 34
  · left
    obtain ⟨h1, h2, h3⟩ := h
    match l, h1, h2, h3 with
    | x :: r, h1, h2, h3 =>
      simp at h2
      subst h2
      have hr : r ≠ [] := fun e => by rw [e] at h1; simp at h1
      have e : r = r.dropLast ++ [34] := by
        rw [List.getLast?_cons_of_ne_nil hr, List.getLast?_eq_some_getLast hr] at h3
        have := List.dropLast_concat_getLast hr
        rw [Option.some.inj h3] at this
        exact this.symm
      refine ⟨r.dropLast, by rw [← e], ?_⟩
      conv => lhs; rw [e]
      exact par_marks _
  · right
    refine ⟨fun hd => ?_, by unfold par; rw [if_neg h]⟩
    obtain ⟨d, rfl⟩ := hd
    apply h
    refine ⟨by simp, rfl, ?_⟩
    rw [show (34 : UInt8) :: (d ++ [34]) = (34 :: d) ++ [34] from rfl, List.getLast?_append]; rfl

/-! ### parted at the commas -/
def spl : Row → List Row
  | [] => [[]]
  | c :: r => if c = 44 then [] :: spl r else match spl r with
    | [] => [[c]]
    | h :: t => (c :: h) :: t
theorem spl_ne : ∀ l : Row, spl l ≠ []
  | [] => by simp [spl]
  | c :: r => by
    unfold spl
    split
    · simp
    · cases spl r <;> simp
theorem spl_own {a : Row} (h : (44 : UInt8) ∉ a) : spl a = [a] := by
  induction a with
  | nil => rfl
  | cons c r ih =>
    have hc : c ≠ 44 := fun e => h (by simp [e])
    unfold spl
    rw [if_neg hc, ih (fun hm => h (by simp [hm]))]
theorem spl_at {a : Row} (r : Row) (h : (44 : UInt8) ∉ a) : spl (a ++ 44 :: r) = a :: spl r := by
  induction a with
  | nil => show spl (44 :: r) = _; rw [spl, if_pos rfl]
  | cons c a ih =>
    have hc : c ≠ 44 := fun e => h (by simp [e])
    show spl (c :: (a ++ 44 :: r)) = _
    rw [spl, if_neg hc, ih (fun hm => h (by simp [hm]))]
theorem spl_cons {c : UInt8} (hc : c ≠ 44) (l : Row) : ∃ h t, spl l = h :: t ∧ spl (c :: l) = (c :: h) :: t := by
  cases hs : spl l with
  | nil => exact absurd hs (spl_ne l)
  | cons h t => exact ⟨h, t, rfl, by rw [spl, if_neg hc, hs]⟩
theorem spl_two (a r : Row) : spl (a ++ 44 :: r) = spl a ++ spl r := by
  induction a with
  | nil =>
    show spl (44 :: r) = [[]] ++ spl r
    conv => lhs; rw [spl, if_pos rfl]
    rfl
  | cons c a ih =>
    by_cases hc : c = 44
    · show spl (c :: (a ++ 44 :: r)) = _
      rw [spl, if_pos hc, ih, spl, if_pos hc]; rfl
    · obtain ⟨h, t, h1, h2⟩ := spl_cons hc a
      show spl (c :: (a ++ 44 :: r)) = _
      rw [spl, if_neg hc, ih, h2, h1]; rfl
theorem spl_len (l : Row) : (spl l).length ≤ l.length + 1 := by
  induction l with
  | nil => simp [spl]
  | cons c r ih =>
    unfold spl
    split
    · simp; omega
    · cases hs : spl r with
      | nil => exact absurd hs (spl_ne r)
      | cons h t => rw [hs] at ih; simp at ih ⊢; omega

def tagsOf : List Row → Option (List Nat)
  | [] => some []
  | p :: r => if par (trim p) = 0 then none else (tagsOf r).map fun t => par (trim p) :: t
theorem tagsOf_append : ∀ (a b : List Row), tagsOf (a ++ b) = (tagsOf a).bind fun x => (tagsOf b).map fun y => x ++ y
  | [], b => by simp [tagsOf]
  | p :: a, b => by
    show (if par (trim p) = 0 then none else (tagsOf (a ++ b)).map _) = _
    rw [tagsOf_append a b, tagsOf]
    split
    · rfl
    · cases tagsOf a with
      | none => rfl
      | some x => cases tagsOf b <;> simp
theorem tagsOf_more {a : List Row} {ts : List Nat} (h : tagsOf a = some ts) {p : Row} (hp : par (trim p) ≠ 0) : tagsOf (a ++ [p]) = some (ts ++ [par (trim p)]) := by
  rw [tagsOf_append, h, tagsOf, if_neg hp]; rfl
theorem tagsOf_stop {a : List Row} {ts : List Nat} (h : tagsOf a = some ts) {p : Row} (hp : par (trim p) = 0) (r : List Row) : tagsOf (a ++ p :: r) = none := by
  rw [tagsOf_append, h, tagsOf, if_pos hp]; rfl
theorem tagsOf_len : ∀ {a : List Row} {ts : List Nat}, tagsOf a = some ts → ts.length = a.length
  | [], ts, h => by cases h; rfl
  | p :: a, ts, h => by
    rw [tagsOf] at h
    split at h
    · cases h
    · cases ht : tagsOf a with
      | none => rw [ht] at h; cases h
      | some x =>
        rw [ht] at h
        cases h
        simp [tagsOf_len ht]
theorem tagsOf_le : ∀ {a : List Row} {ts : List Nat}, tagsOf a = some ts → ∀ n ∈ ts, n ≤ most
  | [], ts, h, n, hn => by cases h; simp at hn
  | p :: a, ts, h, n, hn => by
    rw [tagsOf] at h
    split at h
    · cases h
    · cases ht : tagsOf a with
      | none => rw [ht] at h; cases h
      | some x =>
        rw [ht] at h
        cases h
        rcases List.mem_cons.1 hn with rfl | hn
        · exact par_le _
        · exact tagsOf_le ht n hn

/-- the tags of a condition; is it *; none: it is no condition -/
def cond (l : Row) : Option (List Nat × Bool) := if trim l = [42] then some ([], true) else (tagsOf (spl l)).map fun t => (t, false)
/-- is there something, and has the condition its tag -/
def has (p : List Nat × Bool) (t : Int) : Bool := decide (t ≠ 0) && (p.2 || p.1.any fun n => decide ((n : Int) = t))
def nam (c : Row) (t : Int) : Option Bool := if c = [] then some false else (cond c).map fun p => has p t
def hol (m n : Row) (t : Int) : Option Bool := (nam m t).bind fun a => (nam n t).map fun b => (decide (m = []) || a) && (decide (n = []) || !b)
theorem nam_nil (t : Int) : nam [] t = some false := rfl
theorem hol_none {m n : Row} {t : Int} (h : nam m t = none ∨ nam n t = none) : hol m n t = none := by
  unfold hol
  rcases h with h | h
  · rw [h]; rfl
  · rw [h]
    cases nam m t <;> rfl
theorem hol_some {m n : Row} {t : Int} {a b : Bool} (h1 : nam m t = some a) (h2 : nam n t = some b) : hol m n t = some ((decide (m = []) || a) && (decide (n = []) || !b)) := by
  unfold hol
  rw [h1, h2]; rfl
theorem first_tag : par [34, 51, 34] = 3 := by decide +kernel
theorem first_star (t : Int) : hol [] [42] 0 = some true := by decide +kernel
theorem first_none : hol [120] [] 1 = none := by decide +kernel

/-! ### the two conditions are each other's opposite -/
theorem twin_none {c : Row} (h : cond c = none) (hc : c ≠ []) (u : Int) : nam c u = none := by
  unfold nam
  rw [if_neg hc, h]; rfl
theorem twin_some {c : Row} {p : List Nat × Bool} (h : cond c = some p) (hc : c ≠ []) (u : Int) : nam c u = some (has p u) := by
  unfold nam
  rw [if_neg hc, h]; rfl
theorem has_none (p : List Nat × Bool) : has p 0 = false := rfl

/-! ### order counts for nothing -/
theorem dec_no {n : Nat} {c : UInt8} (h : c.toNat < 48 ∨ 57 < c.toNat) : c ∉ decDigits n := fun hm => by
  have := List.all_eq_true.1 (Ch.all_dec n) c hm
  have h2 := of_decide_eq_true this
  omega
theorem tag_comma (n : Nat) : (44 : UInt8) ∉ tagS n := by
  unfold tagS
  simp only [List.mem_cons, List.mem_append, not_or]
  exact ⟨by decide, dec_no (by decide), by decide, by simp⟩
theorem tag_bl (n : Nat) : ∀ x ∈ tagS n, bl x = false := fun x hx => by
  unfold tagS at hx
  simp only [List.mem_cons, List.mem_append] at hx
  rcases hx with rfl | hx | rfl | hx
  · decide
  · have h2 := of_decide_eq_true (List.all_eq_true.1 (Ch.all_dec n) x hx)
    have h3 : x ≠ 32 := fun e => by rw [e] at h2; revert h2; decide
    have h4 : x ≠ 9 := fun e => by rw [e] at h2; revert h2; decide
    simp [bl, Ht.bl, h3, h4]
  · decide
  · simp at hx
theorem trim_tag (n : Nat) : trim (tagS n) = tagS n := Ht.trim_id (tag_bl n)
theorem trim_front {c : UInt8} (hc : bl c = true) (l : Row) : trim (c :: l) = trim l := by
  show Ht.trim (c :: l) = Ht.trim l
  unfold Ht.trim
  rw [List.dropWhile_cons, if_pos hc]
theorem trim_back {c : UInt8} (hc : bl c = true) {x : UInt8} {l : Row} (hx : bl x = false) : trim (x :: l ++ [c]) = trim (x :: l) := by
  show Ht.trim (x :: (l ++ [c])) = Ht.trim (x :: l)
  unfold Ht.trim
  have hx' : ¬ Ht.bl x = true := by rw [show Ht.bl x = bl x from rfl, hx]; decide
  rw [List.dropWhile_cons, if_neg hx', List.dropWhile_cons, if_neg hx']
  have e : (x :: (l ++ [c])).reverse = c :: (x :: l).reverse := by simp
  rw [e, List.dropWhile_cons, if_pos hc]
theorem trim_mark (r : Row) : ∃ t, trim (34 :: r) = 34 :: t := by
  show ∃ t, Ht.trim (34 :: r) = 34 :: t
  unfold Ht.trim
  rw [List.dropWhile_cons, if_neg (by decide)]
  exact Ht.backs_head 34 r (by decide)
theorem trim_tag_tab (n : Nat) : trim (tagS n ++ [9]) = tagS n := by
  have : trim (tagS n ++ [9]) = trim (tagS n) := trim_back (c := 9) (by decide) (x := 34) (l := decDigits n ++ [34]) (by decide)
  rw [this, trim_tag]
/-- a row of tags that begins with a mark is a condition of just them -/
theorem cond_of {r : Row} {ts : List Nat} (h : tagsOf (spl (34 :: r)) = some ts) : cond (34 :: r) = some (ts, false) := by
  obtain ⟨t, ht⟩ := trim_mark r
  unfold cond
  rw [if_neg (by rw [ht]; simp), h]; rfl

/-- as the statement joins them -/
def Joined (a : Row) (ts : List Nat) : Prop := (∃ r, a = 34 :: r) ∧ tagsOf (spl a) = some ts
def Woven (b : Row) (ts : List Nat) : Prop := (∃ r, b = 34 :: r) ∧ ∃ us, tagsOf (spl b) = some us ∧ ∀ n, n ∈ us ↔ n ∈ ts
theorem joined_one {n : Nat} (h0 : n ≠ 0) (h : n ≤ most) : Joined (tagS n) [n] := by
  refine ⟨⟨_, rfl⟩, ?_⟩
  rw [spl_own (tag_comma n), tagsOf, trim_tag, par_tag h, if_neg h0]; rfl
theorem joined_more {a : Row} {ts : List Nat} (ha : Joined a ts) {n : Nat} (h0 : n ≠ 0) (h : n ≤ most) : Joined (a ++ 44 :: tagS n) (ts ++ [n]) := by
  obtain ⟨⟨r, rfl⟩, h2⟩ := ha
  refine ⟨⟨_, rfl⟩, ?_⟩
  rw [spl_two, spl_own (tag_comma n), tagsOf_more h2 (by rw [trim_tag, par_tag h]; exact h0), trim_tag, par_tag h]
theorem woven_one {n : Nat} (h0 : n ≠ 0) (h : n ≤ most) : Woven (tagS n ++ 44 :: tagS n) [n] := by
  have h2 := joined_more (joined_one h0 h) h0 h
  exact ⟨h2.1, _, h2.2, fun m => by simp⟩
theorem woven_more {b : Row} {ts : List Nat} (hb : Woven b ts) {n : Nat} (h0 : n ≠ 0) (h : n ≤ most) : Woven (tagS n ++ 44 :: (tagS n ++ ([9, 44, 32] ++ b))) (ts ++ [n]) := by
  obtain ⟨⟨r, rfl⟩, us, h2, h3⟩ := hb
  refine ⟨⟨_, rfl⟩, n :: n :: us, ?_, fun m => ?_⟩
  · have e : tagS n ++ ([9, 44, 32] ++ 34 :: r) = (tagS n ++ [9]) ++ 44 :: (32 :: 34 :: r) := by simp
    have hn : (44 : UInt8) ∉ tagS n ++ [9] := by
      simp only [List.mem_append, not_or]
      exact ⟨tag_comma n, by decide⟩
    obtain ⟨hd, tl, e1, e2⟩ := spl_cons (c := 32) (by decide) (34 :: r)
    rw [e1] at h2
    rw [spl_at _ (tag_comma n), e, spl_at _ hn, e2, tagsOf, trim_tag, par_tag h, if_neg h0, tagsOf, trim_tag_tab, par_tag h, if_neg h0, tagsOf, trim_front (by decide)]
    rw [tagsOf] at h2
    rw [h2]; rfl
  · simp only [List.mem_cons, List.mem_append, h3]
    constructor
    · rintro (h | h | h)
      · exact .inr (by simp [h])
      · exact .inr (by simp [h])
      · exact .inl h
    · rintro (h | h)
      · exact .inr (.inr h)
      · simp at h; exact .inl h
theorem any_mem (us : List Nat) (t : Nat) : (us.any fun n => decide ((n : Int) = (t : Int))) = decide (t ∈ us) := by
  rw [Bool.eq_iff_iff]
  simp only [List.any_eq_true, decide_eq_true_iff]
  constructor
  · rintro ⟨n, h1, h2⟩
    rw [show t = n by omega]; exact h1
  · intro h; exact ⟨t, h, rfl⟩
theorem has_list (us : List Nat) {t : Nat} (h : 1 ≤ t) : has (us, false) (t : Int) = decide (t ∈ us) := by
  unfold has
  rw [any_mem, decide_eq_true (by omega : (t : Int) ≠ 0)]
  simp
theorem joined_hol {a : Row} {ts : List Nat} (ha : Joined a ts) {t : Nat} (h : 1 ≤ t) : hol a [] (t : Int) = some (decide (t ∈ ts)) := by
  obtain ⟨⟨r, rfl⟩, h2⟩ := ha
  rw [hol_some (twin_some (cond_of h2) (by simp) _) (nam_nil _), has_list _ h]
  simp
theorem woven_hol {b : Row} {ts : List Nat} (hb : Woven b ts) {t : Nat} (h : 1 ≤ t) : hol b [] (t : Int) = some (decide (t ∈ ts)) ∧ hol [] b (t : Int) = some (!decide (t ∈ ts)) := by
  obtain ⟨⟨r, rfl⟩, us, h2, h3⟩ := hb
  have e : decide (t ∈ us) = decide (t ∈ ts) := by rw [Bool.eq_iff_iff, decide_eq_true_iff, decide_eq_true_iff]; exact h3 t
  have hn := twin_some (cond_of h2) (by simp) (t : Int)
  rw [has_list _ h, e] at hn
  refine ⟨?_, ?_⟩
  · rw [hol_some hn (nam_nil _)]; simp
  · rw [hol_some (nam_nil _) hn]; simp
end Go.Proofs.YtgpkkdimafmehaaDoor.Co
