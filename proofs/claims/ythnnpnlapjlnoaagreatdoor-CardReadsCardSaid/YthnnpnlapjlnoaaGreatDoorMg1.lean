import GoSem.Op.String
import Derived.Sort.Lot0
import Derived.Test.YthnnpnlapjlnoaaGreatDoorProg
import Derived.Shelf.SlSortCmp.KitK
import Derived.Deep.LoopGhost
import Derived.WalkKit
import Derived.Lib.Hide

/-
  PLAIN LAWS OF SORTED LINES: names in order ('lt'), the least key above one ('pick'), keys one by one rising ('riseF'); two rows sorted by a key that have the same elements of each key in the same order are one ('sorted_uniq').
-/
set_option linter.unusedVariables false
namespace Go.Proofs.YthnnpnlapjlnoaaGreatDoor.Ca
abbrev RowB := List UInt8
def lt (x y : RowB) : Bool := Op.bytesLess x y
theorem lt_nil (x : RowB) : lt x [] = false := by cases x <;> rfl
theorem lt_nil_cons (b : UInt8) (y : RowB) : lt [] (b :: y) = true := rfl
theorem lt_cons (a b : UInt8) (x y : RowB) : lt (a :: x) (b :: y) = (decide (a < b) || (a == b && lt x y)) := rfl
theorem lt_irrefl : ∀ x : RowB, lt x x = false
  | [] => rfl
  | a :: x => by
    rw [lt_cons, lt_irrefl x, decide_eq_false (UInt8.lt_irrefl a)]
    simp
theorem lt_trans : ∀ x y z : RowB, lt x y = true → lt y z = true → lt x z = true
  | x, y, [], h1, h2 => by rw [lt_nil] at h2; cases h2
  | x, [], c :: z, h1, h2 => by rw [lt_nil] at h1; cases h1
  | [], b :: y, c :: z, _, _ => rfl
  | a :: x, b :: y, c :: z, h1, h2 => by
    rw [lt_cons, Bool.or_eq_true, Bool.and_eq_true, decide_eq_true_eq, beq_iff_eq] at h1 h2 ⊢
    rcases h1 with h1 | ⟨rfl, h1⟩ <;> rcases h2 with h2 | ⟨rfl, h2⟩
    · exact .inl (UInt8.lt_trans h1 h2)
    · exact .inl h1
    · exact .inl h2
    · exact .inr ⟨rfl, lt_trans x y z h1 h2⟩
theorem lt_or : ∀ x y : RowB, lt x y = false → lt y x = false → x = y
  | [], [], _, _ => rfl
  | [], b :: y, h, _ => by rw [lt_nil_cons] at h; cases h
  | a :: x, [], _, h => by rw [lt_nil_cons] at h; cases h
  | a :: x, b :: y, h1, h2 => by
    rw [lt_cons, Bool.or_eq_false_iff, Bool.and_eq_false_iff, decide_eq_false_iff_not] at h1 h2
    have e : a = b := by
      apply UInt8.toNat_inj.1
      have g1 := h1.1
      have g2 := h2.1
      rw [UInt8.lt_iff_toNat_lt] at g1 g2
      omega
    subst e
    have k1 : lt x y = false := by rcases h1.2 with h | h; exact absurd h (by simp); exact h
    have k2 : lt y x = false := by rcases h2.2 with h | h; exact absurd h (by simp); exact h
    rw [lt_or x y k1 k2]
theorem lt_asymm (x y : RowB) (h : lt x y = true) : lt y x = false := by
  cases hc : lt y x with
  | false => rfl
  | true => have := lt_trans x y x h hc; rw [lt_irrefl] at this; cases this
theorem lt_of_not (x y z : RowB) (h1 : lt y x = false) (h2 : lt y z = true) : lt x z = true := by
  cases hc : lt x z with
  | true => rfl
  | false =>
    cases hd : lt z x with
    | true => have := lt_trans y z x h2 hd; rw [h1] at this; cases this
    | false => have := lt_or x z hc hd; rw [this, h2] at h1; cases h1

variable {α : Type} (key : α → RowB)
def Sorted (s : List α) : Prop := s.Pairwise fun a b => lt (key b) (key a) = false
theorem head_of_filter {s : List α} {a b : α} {t : List α} (h : (a :: s).filter (fun x => decide (key x = key a)) = (b :: t).filter (fun x => decide (key x = key a))) (hb : key b = key a) : a = b ∧ s.filter (fun x => decide (key x = key a)) = t.filter (fun x => decide (key x = key a)) := by
  rw [List.filter_cons_of_pos (by simp), List.filter_cons_of_pos (by simpa using hb)] at h
  exact List.cons.inj h
theorem sorted_uniq : ∀ (s t : List α), Sorted key s → Sorted key t → (∀ m, s.filter (fun x => decide (key x = m)) = t.filter (fun x => decide (key x = m))) → s = t
  | [], [], _, _, _ => rfl
  | [], b :: t, _, _, h => by
    have := h (key b)
    rw [List.filter_cons_of_pos (by simp)] at this
    cases this
  | a :: s, [], _, _, h => by
    have := h (key a)
    rw [List.filter_cons_of_pos (by simp)] at this
    cases this
  | a :: s, b :: t, hs, ht, h => by
    have hs1 := List.pairwise_cons.1 hs
    have ht1 := List.pairwise_cons.1 ht
    have ha : a ∈ b :: t := by
      have : a ∈ (a :: s).filter (fun x => decide (key x = key a)) := by rw [List.filter_cons_of_pos (by simp)]; simp
      rw [h (key a)] at this
      exact (List.mem_filter.1 this).1
    have hb : b ∈ a :: s := by
      have : b ∈ (b :: t).filter (fun x => decide (key x = key b)) := by rw [List.filter_cons_of_pos (by simp)]; simp
      rw [← h (key b)] at this
      exact (List.mem_filter.1 this).1
    have e : key b = key a := by
      rcases List.mem_cons.1 ha with ha | ha
      · rw [ha]
      · rcases List.mem_cons.1 hb with hb | hb
        · rw [hb]
        · exact lt_or _ _ (hs1.1 b hb) (ht1.1 a ha)
    obtain ⟨rfl, h2⟩ := head_of_filter key (h (key a)) e
    rw [sorted_uniq s t hs1.2 ht1.2 (fun m => by
      by_cases hm : key a = m
      · subst hm; exact h2
      · have := h m
        rwa [List.filter_cons_of_neg (by simpa using hm), List.filter_cons_of_neg (by simpa using hm)] at this)]

/-! ### the least key above one -/
def pickStep (last : RowB) (acc : Option RowB) (x : α) : Option RowB :=
  if lt last (key x) = true ∧ (∀ m, acc = some m → lt (key x) m = true) then some (key x) else acc
def pick (last : RowB) (xs : List α) : Option RowB := xs.foldl (fun acc x => if lt last (key x) && (match acc with | none => true | some m => lt (key x) m) then some (key x) else acc) none
theorem pick_acc (last : RowB) : ∀ (xs : List α) (acc : Option RowB), (∀ m, acc = some m → lt last m = true) →
    match xs.foldl (fun acc x => if lt last (key x) && (match acc with | none => true | some m => lt (key x) m) then some (key x) else acc) acc with
    | none => acc = none ∧ ∀ x ∈ xs, lt last (key x) = false
    | some m => (acc = some m ∨ ∃ x ∈ xs, key x = m) ∧ lt last m = true ∧ (∀ k, acc = some k → lt k m = false) ∧ ∀ x ∈ xs, lt last (key x) = true → lt (key x) m = false
  | [], acc, h => by
    cases acc with
    | none => exact ⟨rfl, fun x hx => by cases hx⟩
    | some m => exact ⟨.inl rfl, h m rfl, fun k hk => by cases hk; exact lt_irrefl _, fun x hx => by cases hx⟩
  | x :: xs, acc, h => by
    rw [List.foldl_cons]
    by_cases hx : lt last (key x) = true
    · cases acc with
      | none =>
        have ih := pick_acc last xs (some (key x)) (fun m hm => by cases hm; exact hx)
        simp only [hx, Bool.true_and, if_true]
        split at ih
        · exact absurd ih.1 (by simp)
        · obtain ⟨i1, i2, i3, i4⟩ := ih
          refine ⟨.inr ?_, i2, fun k hk => (by cases hk), fun y hy hl => ?_⟩
          · rcases i1 with i1 | ⟨y, hy, e⟩
            · exact ⟨x, by simp, Option.some.inj i1⟩
            · exact ⟨y, by simp [hy], e⟩
          · rcases List.mem_cons.1 hy with rfl | hy
            · exact i3 _ rfl
            · exact i4 y hy hl
      | some m0 =>
        cases hc : lt (key x) m0 with
        | true =>
          have ih := pick_acc last xs (some (key x)) (fun m hm => by cases hm; exact hx)
          simp only [hx, hc, Bool.true_and, if_true]
          split at ih
          · exact absurd ih.1 (by simp)
          · obtain ⟨i1, i2, i3, i4⟩ := ih
            refine ⟨.inr ?_, i2, fun k hk => ?_, fun y hy hl => ?_⟩
            · rcases i1 with i1 | ⟨y, hy, e⟩
              · exact ⟨x, by simp, Option.some.inj i1⟩
              · exact ⟨y, by simp [hy], e⟩
            · cases hk
              cases hd : lt m0 _ with
              | false => rfl
              | true => have := lt_trans _ _ _ hc hd; rw [i3 _ rfl] at this; cases this
            · rcases List.mem_cons.1 hy with rfl | hy
              · exact i3 _ rfl
              · exact i4 y hy hl
        | false =>
          have ih := pick_acc last xs (some m0) h
          simp only [hx, hc, Bool.and_false, Bool.false_eq_true, if_false]
          split at ih
          · exact absurd ih.1 (by simp)
          · obtain ⟨i1, i2, i3, i4⟩ := ih
            refine ⟨?_, i2, i3, fun y hy hl => ?_⟩
            · rcases i1 with i1 | ⟨y, hy, e⟩
              · exact .inl i1
              · exact .inr ⟨y, by simp [hy], e⟩
            · rcases List.mem_cons.1 hy with rfl | hy
              · rename_i m _
                have h3 := i3 _ rfl
                cases hd : lt (key y) m with
                | false => rfl
                | true => have := lt_of_not m0 (key y) m hc hd; rw [h3] at this; cases this
              · exact i4 y hy hl
    · have hx' : lt last (key x) = false := by simpa using hx
      have ih := pick_acc last xs acc h
      simp only [hx', Bool.false_and, Bool.false_eq_true, if_false]
      split at ih
      · refine ⟨ih.1, fun y hy => ?_⟩
        rcases List.mem_cons.1 hy with rfl | hy
        · exact hx'
        · exact ih.2 y hy
      · obtain ⟨i1, i2, i3, i4⟩ := ih
        refine ⟨?_, i2, i3, fun y hy hl => ?_⟩
        · rcases i1 with i1 | ⟨y, hy, e⟩
          · exact .inl i1
          · exact .inr ⟨y, by simp [hy], e⟩
        · rcases List.mem_cons.1 hy with rfl | hy
          · rw [hx'] at hl; cases hl
          · exact i4 y hy hl
theorem pick_none {last : RowB} {xs : List α} (h : pick key last xs = none) : ∀ x ∈ xs, lt last (key x) = false := by
  have := pick_acc key last xs none (fun m hm => by cases hm)
  unfold pick at h
  rw [h] at this
  exact this.2
theorem pick_some {last m : RowB} {xs : List α} (h : pick key last xs = some m) : (∃ x ∈ xs, key x = m) ∧ lt last m = true ∧ ∀ x ∈ xs, lt last (key x) = true → lt (key x) m = false := by
  have := pick_acc key last xs none (fun m hm => by cases hm)
  unfold pick at h
  rw [h] at this
  obtain ⟨i1, i2, _, i4⟩ := this
  refine ⟨?_, i2, i4⟩
  rcases i1 with i1 | i1
  · cases i1
  · exact i1

/-! ### key by key, rising -/
def riseF : Nat → RowB → List α → List α
  | 0, _, _ => []
  | f + 1, last, xs => match pick key last xs with
    | none => []
    | some m => xs.filter (fun x => decide (key x = m)) ++ riseF f m xs
theorem count_less {last m : RowB} {xs : List α} (h : pick key last xs = some m) : xs.countP (fun x => lt m (key x)) < xs.countP (fun x => lt last (key x)) := by
  obtain ⟨⟨x, hx, e⟩, h2, _⟩ := pick_some key h
  have hle : ∀ y, lt m (key y) = true → lt last (key y) = true := fun y hy => lt_trans _ _ _ h2 hy
  obtain ⟨a, b, rfl⟩ := List.append_of_mem hx
  simp only [List.countP_append, List.countP_cons]
  have h3 : lt m (key x) = false := by rw [e]; exact lt_irrefl _
  have h4 : lt last (key x) = true := by rw [e]; exact h2
  rw [h3, h4]
  have i1 := List.countP_mono_left (l := a) (p := fun y => lt m (key y)) (q := fun y => lt last (key y)) (fun y _ hy => hle y hy)
  have i2 := List.countP_mono_left (l := b) (p := fun y => lt m (key y)) (q := fun y => lt last (key y)) (fun y _ hy => hle y hy)
  simp
  omega
theorem rise_spec : ∀ (f : Nat) (last : RowB) (xs : List α), xs.countP (fun x => lt last (key x)) ≤ f →
    Sorted key (riseF key f last xs) ∧ (∀ y ∈ riseF key f last xs, lt last (key y) = true) ∧ ∀ m, (riseF key f last xs).filter (fun x => decide (key x = m)) = if lt last m = true then xs.filter (fun x => decide (key x = m)) else []
  | 0, last, xs, h => by
    refine ⟨List.Pairwise.nil, fun y hy => (by cases hy), fun m => ?_⟩
    have h0 := List.countP_eq_zero.1 (Nat.le_zero.1 h)
    show [] = _
    by_cases hm : lt last m = true
    · rw [if_pos hm]
      symm
      rw [List.filter_eq_nil_iff]
      intro x hx e
      have e : key x = m := by simpa using e
      exact h0 x hx (by rw [e]; exact hm)
    · rw [if_neg hm]
  | f + 1, last, xs, h => by
    unfold riseF
    cases hp : pick key last xs with
    | none =>
      have hn := pick_none key hp
      refine ⟨List.Pairwise.nil, fun y hy => (by cases hy), fun m => ?_⟩
      show [] = _
      by_cases hm : lt last m = true
      · rw [if_pos hm]
        symm
        rw [List.filter_eq_nil_iff]
        intro x hx e
        have e : key x = m := by simpa using e
        have := hn x hx
        rw [e, hm] at this
        cases this
      · rw [if_neg hm]
    | some m =>
      obtain ⟨_, h2, h3⟩ := pick_some key hp
      have hc := count_less key hp
      obtain ⟨i1, i2, i3⟩ := rise_spec f m xs (by omega)
      dsimp only
      have hmem : ∀ y ∈ xs.filter (fun x => decide (key x = m)), key y = m := fun y hy => by simpa using (List.mem_filter.1 hy).2
      refine ⟨?_, fun y hy => ?_, fun k => ?_⟩
      · refine List.pairwise_append.2 ⟨?_, i1, fun a ha b hb => ?_⟩
        · refine List.Pairwise.imp_of_mem (R := fun _ _ => True) (fun {a b} ha hb _ => by rw [hmem a ha, hmem b hb]; exact lt_irrefl _) ?_
          exact List.pairwise_of_forall (fun _ _ => trivial)
        · rw [hmem a ha]; exact lt_asymm _ _ (i2 b hb)
      · rcases List.mem_append.1 hy with hy | hy
        · rw [hmem y hy]; exact h2
        · exact lt_trans _ _ _ h2 (i2 y hy)
      · rw [List.filter_append, i3 k, List.filter_filter]
        by_cases hk : k = m
        · subst hk
          rw [lt_irrefl, if_pos h2, if_neg (by simp), List.append_nil]
          congr 1
          funext x
          simp
        · have e0 : xs.filter (fun x => decide (key x = k) && decide (key x = m)) = [] := by
            rw [List.filter_eq_nil_iff]
            intro x _ e
            simp only [Bool.and_eq_true, decide_eq_true_eq] at e
            exact hk (e.1.symm.trans e.2)
          rw [e0, List.nil_append]
          by_cases h1 : lt m k = true
          · rw [if_pos h1, if_pos (lt_trans _ _ _ h2 h1)]
          · rw [if_neg h1]
            split
            · rename_i h5
              symm
              rw [List.filter_eq_nil_iff]
              intro x hx e
              have e : key x = k := by simpa using e
              have h6 := h3 x hx (by rw [e]; exact h5)
              rw [e] at h6
              exact hk (lt_or _ _ h6 (by simpa using h1))
            · rfl
end Go.Proofs.YthnnpnlapjlnoaaGreatDoor.Ca

/-
  PLAIN LAWS OF A STABLE MERGE SORT: 'mrg' (two sorted rows as one, of equals the left one first), how it splits, that it is sorted and keeps the elements of each key in their order; rows of sorted runs.
-/
set_option linter.unusedVariables false
namespace Go.Proofs.YthnnpnlapjlnoaaGreatDoor.Ca
variable {α : Type} (key : α → RowB)

def mrg : List α → List α → List α
  | [], ys => ys
  | x :: xs, [] => x :: xs
  | x :: xs, y :: ys => if lt (key y) (key x) = true then y :: mrg (x :: xs) ys else x :: mrg xs (y :: ys)
termination_by xs ys => xs.length + ys.length
theorem mrg_nil (ys : List α) : mrg key [] ys = ys := by unfold mrg; rfl
theorem mrg_right (xs : List α) : mrg key xs [] = xs := by cases xs <;> (unfold mrg; rfl)
theorem mrg_lt {x y : α} (xs ys : List α) (h : lt (key y) (key x) = true) : mrg key (x :: xs) (y :: ys) = y :: mrg key (x :: xs) ys := by rw [mrg]; exact if_pos h
theorem mrg_ge {x y : α} (xs ys : List α) (h : lt (key y) (key x) = false) : mrg key (x :: xs) (y :: ys) = x :: mrg key xs (y :: ys) := by rw [mrg]; exact if_neg (by simp [h])
theorem mrg_length : ∀ (n : Nat) (xs ys : List α), xs.length + ys.length ≤ n → (mrg key xs ys).length = xs.length + ys.length
  | n, [], ys, _ => by rw [mrg_nil]; simp
  | n, x :: xs, [], _ => by rw [mrg_right]; simp
  | 0, x :: xs, y :: ys, h => by simp at h
  | n + 1, x :: xs, y :: ys, h => by
    simp at h
    cases hc : lt (key y) (key x) with
    | true => rw [mrg_lt key xs ys hc, List.length_cons, mrg_length n (x :: xs) ys (by simp; omega)]; simp; omega
    | false => rw [mrg_ge key xs ys hc, List.length_cons, mrg_length n xs (y :: ys) (by simp; omega)]; simp; omega
theorem mrg_len (xs ys : List α) : (mrg key xs ys).length = xs.length + ys.length := mrg_length key _ xs ys (Nat.le_refl _)
theorem mrg_mem' : ∀ (n : Nat) (xs ys : List α), xs.length + ys.length ≤ n → ∀ a, a ∈ mrg key xs ys → a ∈ xs ∨ a ∈ ys
  | n, [], ys, _, a, h => by rw [mrg_nil] at h; exact .inr h
  | n, x :: xs, [], _, a, h => by rw [mrg_right] at h; exact .inl h
  | 0, x :: xs, y :: ys, hl, _, _ => by simp at hl
  | n + 1, x :: xs, y :: ys, hl, a, h => by
    simp at hl
    cases hc : lt (key y) (key x) with
    | true =>
      rw [mrg_lt key xs ys hc] at h
      rcases List.mem_cons.1 h with rfl | h
      · exact .inr (by simp)
      · rcases mrg_mem' n (x :: xs) ys (by simp; omega) a h with h | h
        · exact .inl h
        · exact .inr (by simp [h])
    | false =>
      rw [mrg_ge key xs ys hc] at h
      rcases List.mem_cons.1 h with rfl | h
      · exact .inl (by simp)
      · rcases mrg_mem' n xs (y :: ys) (by simp; omega) a h with h | h
        · exact .inl (by simp [h])
        · exact .inr h
theorem mrg_mem {xs ys : List α} {a : α} (h : a ∈ mrg key xs ys) : a ∈ xs ∨ a ∈ ys := mrg_mem' key _ xs ys (Nat.le_refl _) a h
/-- where all that lies behind is not less than all ahead, the merge falls in two -/
theorem mrg_split' : ∀ (n : Nat) (u1 u2 v1 v2 : List α), u1.length + v1.length ≤ n → (∀ x ∈ u2, ∀ y ∈ v1, lt (key y) (key x) = true) → (∀ x ∈ u1, ∀ y ∈ v2, lt (key y) (key x) = false) →
    mrg key (u1 ++ u2) (v1 ++ v2) = mrg key u1 v1 ++ mrg key u2 v2
  | n, [], u2, [], v2, _, _, _ => by simp [mrg_nil]
  | n, [], [], y :: v1, v2, _, _, _ => by simp [mrg_nil]
  | n, [], x :: u2, y :: v1, v2, hl, h1, h2 => by
    have hc := h1 x (by simp) y (by simp)
    rw [List.nil_append, List.cons_append, mrg_lt key u2 _ hc, mrg_nil]
    have : n ≠ 0 := by simp at hl; omega
    have ih := mrg_split' (n - 1) [] (x :: u2) v1 v2 (by simp at hl ⊢; omega) (fun a ha b hb => h1 a ha b (by simp [hb])) (fun a ha => by cases ha)
    rw [List.nil_append, mrg_nil] at ih
    rw [ih]; rfl
  | n, x :: u1, u2, [], [], _, _, _ => by simp [mrg_right]
  | n, x :: u1, u2, [], y :: v2, hl, h1, h2 => by
    have hc := h2 x (by simp) y (by simp)
    rw [List.nil_append, List.cons_append, mrg_ge key _ _ hc, mrg_right]
    have : n ≠ 0 := by simp at hl; omega
    have ih := mrg_split' (n - 1) u1 u2 [] (y :: v2) (by simp at hl ⊢; omega) (fun a ha b hb => by cases hb) (fun a ha b hb => h2 a (by simp [ha]) b hb)
    rw [List.nil_append, mrg_right] at ih
    rw [ih]; rfl
  | n, x :: u1, u2, y :: v1, v2, hl, h1, h2 => by
    have hn : n ≠ 0 := by simp at hl; omega
    simp only [List.cons_append]
    cases hc : lt (key y) (key x) with
    | true =>
      rw [mrg_lt key _ _ hc, mrg_lt key _ _ hc]
      have ih := mrg_split' (n - 1) (x :: u1) u2 v1 v2 (by simp at hl ⊢; omega) (fun a ha b hb => h1 a ha b (by simp [hb])) h2
      rw [List.cons_append] at ih
      rw [ih]; rfl
    | false =>
      rw [mrg_ge key _ _ hc, mrg_ge key _ _ hc]
      have ih := mrg_split' (n - 1) u1 u2 (y :: v1) v2 (by simp at hl ⊢; omega) h1 (fun a ha b hb => h2 a (by simp [ha]) b hb)
      rw [List.cons_append] at ih
      rw [ih]; rfl
theorem mrg_split {u1 u2 v1 v2 : List α} (h1 : ∀ x ∈ u2, ∀ y ∈ v1, lt (key y) (key x) = true) (h2 : ∀ x ∈ u1, ∀ y ∈ v2, lt (key y) (key x) = false) : mrg key (u1 ++ u2) (v1 ++ v2) = mrg key u1 v1 ++ mrg key u2 v2 := mrg_split' key _ u1 u2 v1 v2 (Nat.le_refl _) h1 h2
theorem mrg_one_left {x : α} {v1 v2 : List α} (h1 : ∀ y ∈ v1, lt (key y) (key x) = true) (h2 : ∀ y ∈ v2, lt (key y) (key x) = false) : mrg key [x] (v1 ++ v2) = v1 ++ x :: v2 := by
  have e1 := mrg_split key (u1 := []) (u2 := [x]) (v1 := v1) (v2 := v2) (fun a ha b hb => by rw [List.mem_singleton.1 ha]; exact h1 b hb) (fun a ha => by cases ha)
  have e2 := mrg_split key (u1 := [x]) (u2 := []) (v1 := []) (v2 := v2) (fun a ha => by cases ha) (fun a ha b hb => by rw [List.mem_singleton.1 ha]; exact h2 b hb)
  simp only [List.nil_append, List.append_nil, mrg_nil, mrg_right] at e1 e2
  rw [e1, e2]; rfl
theorem mrg_one_right {y : α} {u1 u2 : List α} (h1 : ∀ x ∈ u1, lt (key y) (key x) = false) (h2 : ∀ x ∈ u2, lt (key y) (key x) = true) : mrg key (u1 ++ u2) [y] = u1 ++ y :: u2 := by
  have e1 := mrg_split key (u1 := u1) (u2 := u2) (v1 := []) (v2 := [y]) (fun a ha b hb => by cases hb) (fun a ha b hb => by rw [List.mem_singleton.1 hb]; exact h1 a ha)
  have e2 := mrg_split key (u1 := []) (u2 := u2) (v1 := [y]) (v2 := []) (fun a ha b hb => by rw [List.mem_singleton.1 hb]; exact h2 a ha) (fun a ha => by cases ha)
  simp only [List.nil_append, List.append_nil, mrg_nil, mrg_right] at e1 e2
  rw [e1, e2]; rfl
theorem lt_lt_le {y f x : RowB} (h1 : lt y f = true) (h2 : lt x f = false) : lt y x = true := by
  cases hc : lt y x with
  | true => rfl
  | false => have := lt_of_not x y f hc h1; rw [h2] at this; cases this
/-- y ≤ l < f ≤ x -/
theorem lt_far {y l f x : RowB} (h1 : lt l y = false) (h2 : lt l f = true) (h3 : lt x f = false) : lt y x = true := lt_lt_le (lt_of_not _ _ _ h1 h2) h3
/-- u ≤ l ≤ f ≤ v -/
theorem le_far {u l f v : RowB} (h1 : lt l u = false) (h2 : lt f l = false) (h3 : lt v f = false) : lt v u = false := by
  cases hc : lt v u with
  | false => rfl
  | true => have := lt_of_not f v l h3 (lt_lt_le hc h1); rw [h2] at this; cases this
theorem mrg_sorted' : ∀ (n : Nat) (xs ys : List α), xs.length + ys.length ≤ n → Sorted key xs → Sorted key ys → Sorted key (mrg key xs ys)
  | n, [], ys, _, _, h => by rw [mrg_nil]; exact h
  | n, x :: xs, [], _, h, _ => by rw [mrg_right]; exact h
  | 0, x :: xs, y :: ys, hl, _, _ => by simp at hl
  | n + 1, x :: xs, y :: ys, hl, h1, h2 => by
    simp at hl
    have g1 := List.pairwise_cons.1 h1
    have g2 := List.pairwise_cons.1 h2
    cases hc : lt (key y) (key x) with
    | true =>
      rw [mrg_lt key xs ys hc]
      refine List.pairwise_cons.2 ⟨fun z hz => ?_, mrg_sorted' n (x :: xs) ys (by simp; omega) h1 g2.2⟩
      rcases mrg_mem key hz with hz | hz
      · rcases List.mem_cons.1 hz with rfl | hz
        · exact lt_asymm _ _ hc
        · cases hd : lt (key z) (key y) with
          | false => rfl
          | true => have := lt_trans _ _ _ hd hc; rw [g1.1 z hz] at this; cases this
      · exact g2.1 z hz
    | false =>
      rw [mrg_ge key xs ys hc]
      refine List.pairwise_cons.2 ⟨fun z hz => ?_, mrg_sorted' n xs (y :: ys) (by simp; omega) g1.2 h2⟩
      rcases mrg_mem key hz with hz | hz
      · exact g1.1 z hz
      · rcases List.mem_cons.1 hz with rfl | hz
        · exact hc
        · cases hd : lt (key z) (key x) with
          | false => rfl
          | true => have := lt_lt_le hd hc; rw [g2.1 z hz] at this; cases this
theorem mrg_sorted {xs ys : List α} (h1 : Sorted key xs) (h2 : Sorted key ys) : Sorted key (mrg key xs ys) := mrg_sorted' key _ xs ys (Nat.le_refl _) h1 h2
theorem mrg_filter' : ∀ (n : Nat) (xs ys : List α), xs.length + ys.length ≤ n → Sorted key xs → ∀ m, (mrg key xs ys).filter (fun x => decide (key x = m)) = xs.filter (fun x => decide (key x = m)) ++ ys.filter (fun x => decide (key x = m))
  | n, [], ys, _, _, m => by rw [mrg_nil]; rfl
  | n, x :: xs, [], _, _, m => by rw [mrg_right]; simp
  | 0, x :: xs, y :: ys, hl, _, _ => by simp at hl
  | n + 1, x :: xs, y :: ys, hl, h1, m => by
    simp at hl
    have g1 := List.pairwise_cons.1 h1
    cases hc : lt (key y) (key x) with
    | true =>
      rw [mrg_lt key xs ys hc]
      have ih := mrg_filter' n (x :: xs) ys (by simp; omega) h1 m
      by_cases hm : key y = m
      · have e0 : (x :: xs).filter (fun x => decide (key x = m)) = [] := by
          rw [List.filter_eq_nil_iff]
          intro z hz e
          have e : key z = m := by simpa using e
          rcases List.mem_cons.1 hz with rfl | hz
          · rw [e, ← hm, lt_irrefl] at hc; cases hc
          · have := lt_lt_le hc (g1.1 z hz)
            rw [e, ← hm, lt_irrefl] at this; cases this
        rw [List.filter_cons_of_pos (by simpa using hm), ih, e0, List.nil_append, List.nil_append, List.filter_cons_of_pos (by simpa using hm)]
      · rw [List.filter_cons_of_neg (by simpa using hm), ih, List.filter_cons_of_neg (a := y) (by simpa using hm)]
    | false =>
      rw [mrg_ge key xs ys hc]
      have ih := mrg_filter' n xs (y :: ys) (by simp; omega) g1.2 m
      by_cases hm : key x = m
      · rw [List.filter_cons_of_pos (by simpa using hm), ih, List.filter_cons_of_pos (a := x) (by simpa using hm)]; rfl
      · rw [List.filter_cons_of_neg (by simpa using hm), ih, List.filter_cons_of_neg (a := x) (by simpa using hm)]
/-- the same elements of each key, in the same order -/
def Same (s t : List α) : Prop := ∀ m, s.filter (fun x => decide (key x = m)) = t.filter (fun x => decide (key x = m))
theorem Same.refl (s : List α) : Same key s s := fun _ => rfl
theorem Same.trans {s t u : List α} (h1 : Same key s t) (h2 : Same key t u) : Same key s u := fun m => (h1 m).trans (h2 m)
theorem Same.ctx {s t : List α} (h : Same key s t) (P S : List α) : Same key (P ++ (s ++ S)) (P ++ (t ++ S)) := fun m => by simp only [List.filter_append]; rw [h m]
theorem mrg_same {xs ys : List α} (h1 : Sorted key xs) : Same key (mrg key xs ys) (xs ++ ys) := fun m => by rw [mrg_filter' key _ xs ys (Nat.le_refl _) h1 m, List.filter_append]
theorem Same.len {s t : List α} (h : Same key s t) (hl : s.length = t.length) : True := trivial
theorem sorted_at {L : List α} (h : Sorted key L) {i j : Nat} (hij : i ≤ j) (hj : j < L.length) : lt (key L[j]) (key (L[i]'(by omega))) = false := by
  rcases Nat.lt_or_ge i j with h1 | h1
  · exact List.pairwise_iff_getElem.1 h i j (by omega) hj h1
  · have : i = j := by omega
    subst this
    exact lt_irrefl _
theorem sorted_take {L : List α} (h : Sorted key L) (k : Nat) : Sorted key (L.take k) := List.Pairwise.sublist (List.take_sublist k L) h
theorem sorted_drop {L : List α} (h : Sorted key L) (k : Nat) : Sorted key (L.drop k) := List.Pairwise.sublist (List.drop_sublist k L) h
theorem mem_take_le {L : List α} (h : Sorted key L) {k : Nat} (hk : 0 < k) (hl : k ≤ L.length) {y : α} (hy : y ∈ L.take k) : lt (key (L[k - 1]'(by omega))) (key y) = false := by
  obtain ⟨i, hi, rfl⟩ := List.getElem_of_mem hy
  rw [List.length_take] at hi
  rw [List.getElem_take]
  exact sorted_at key h (by omega) (by omega)
theorem mem_drop_ge {L : List α} (h : Sorted key L) {k : Nat} (hl : k < L.length) {y : α} (hy : y ∈ L.drop k) : lt (key y) (key L[k]) = false := by
  obtain ⟨i, hi, rfl⟩ := List.getElem_of_mem hy
  rw [List.length_drop] at hi
  rw [List.getElem_drop]
  exact sorted_at key h (by omega) (by omega)
/-- two sorted rows cut where what is ahead on the right is less than what is behind on the left, and what is ahead on the left isn't more than what is behind on the right -/
theorem mrg_cut {X Y : List α} (hX : Sorted key X) (hY : Sorted key Y) (i j : Nat) (hi : i ≤ X.length) (hj : j ≤ Y.length)
    (h1 : ∀ (a : 0 < j) (b : i < X.length), lt (key (Y[j - 1]'(by omega))) (key X[i]) = true) (h2 : ∀ (a : 0 < i) (b : j < Y.length), lt (key Y[j]) (key (X[i - 1]'(by omega))) = false) :
    mrg key X Y = mrg key (X.take i) (Y.take j) ++ mrg key (X.drop i) (Y.drop j) := by
  conv => lhs; rw [← List.take_append_drop i X, ← List.take_append_drop j Y]
  refine mrg_split key (fun x hx y hy => ?_) (fun x hx y hy => ?_)
  · have hj0 : 0 < j := by rcases Nat.eq_zero_or_pos j with rfl | h; simp at hy; exact h
    have hi0 : i < X.length := by
      rcases Nat.lt_or_ge i X.length with h | h
      · exact h
      · rw [List.drop_eq_nil_of_le h] at hx; cases hx
    exact lt_far (mem_take_le key hY hj0 hj hy) (h1 hj0 hi0) (mem_drop_ge key hX hi0 hx)
  · have hi0 : 0 < i := by rcases Nat.eq_zero_or_pos i with rfl | h; simp at hx; exact h
    have hj0 : j < Y.length := by
      rcases Nat.lt_or_ge j Y.length with h | h
      · exact h
      · rw [List.drop_eq_nil_of_le h] at hy; cases hy
    exact le_far (mem_take_le key hX hi0 hi hx) (h2 hi0 hj0) (mem_drop_ge key hY hj0 hy)

/-! ### rows of sorted runs -/
inductive Runs (bs : Nat) : List α → Prop
  | last (B : List α) : Sorted key B → B.length ≤ bs → Runs bs B
  | cons (B R : List α) : Sorted key B → B.length = bs → Runs bs R → Runs bs (B ++ R)
theorem Runs.sorted {bs : Nat} {L : List α} (h : Runs key bs L) (hl : L.length ≤ bs) : Sorted key L := by
  cases h with
  | last _ h1 _ => exact h1
  | cons B R h1 h2 h3 =>
    rw [List.length_append] at hl
    have : R = [] := List.eq_nil_of_length_eq_zero (by omega)
    rw [this, List.append_nil]; exact h1
/-- one run, and what follows -/
theorem Runs.one {bs : Nat} {L : List α} (h : Runs key bs L) : Sorted key (L.take bs) ∧ Runs key bs (L.drop bs) := by
  cases h with
  | last _ h1 h2 =>
    refine ⟨sorted_take key h1 _, ?_⟩
    rw [List.drop_eq_nil_of_le h2]
    exact .last [] List.Pairwise.nil (by simp)
  | cons B R h1 h2 h3 =>
    rw [← h2, List.take_left, List.drop_left]
    exact ⟨h1, by rw [h2]; exact h3⟩
end Go.Proofs.YthnnpnlapjlnoaaGreatDoor.Ca

/-
  EXCHANGES IN A ROW WRITTEN AS A LIST: 'swp' of two places, in both orders; what stands at a place. What the sort's walks ask of a binary search.
-/
set_option linter.unusedVariables false
namespace Go.Proofs.YthnnpnlapjlnoaaGreatDoor.Ca
open Go.Sort
section
variable {α : Type}
/-- n places exchanged with n others, one by one: what stands there behind k of them -/
def rng (P X Q Y S : List α) (k : Nat) : List α := P ++ ((Y.take k ++ X.drop k) ++ (Q ++ ((X.take k ++ Y.drop k) ++ S)))
theorem rng_zero (P X Q Y S : List α) : rng P X Q Y S 0 = P ++ (X ++ (Q ++ (Y ++ S))) := by simp [rng]
theorem rng_all (P X Q Y S : List α) (n : Nat) (hx : X.length = n) (hy : Y.length = n) : rng P X Q Y S n = P ++ (Y ++ (Q ++ (X ++ S))) := by
  unfold rng
  rw [List.take_of_length_le (by omega), List.drop_eq_nil_of_le (by omega), List.take_of_length_le (by omega), List.drop_eq_nil_of_le (by omega), List.append_nil, List.append_nil]
theorem rng_len (P X Q Y S : List α) (n k : Nat) (hx : X.length = n) (hy : Y.length = n) (hk : k ≤ n) : (rng P X Q Y S k).length = P.length + n + Q.length + n + S.length := by
  unfold rng; simp; omega
end
variable {α : Type} [Inhabited α]

theorem get_list (L : List α) (i : Nat) : L.toArray[i]! = L[i]! := by simp
theorem get_mid (P S : List α) (x : α) : (P ++ x :: S).toArray[P.length]! = x := by simp
theorem get_at (P S : List α) (x : α) (i : Nat) (h : i = P.length) : (P ++ x :: S).toArray[i]! = x := by subst h; exact get_mid P S x
theorem get_of {L : List α} {i : Nat} (h : i < L.length) : L.toArray[i]! = L[i] := by simp [h]
theorem swp_list (L : List α) (i j : Nat) : (swp L.toArray i j) = ((L.set i (L.toArray[j]!)).set j (L.toArray[i]!)).toArray := by
  unfold swp
  simp
theorem swp_mid (P Q S : List α) (x y : α) (i j : Nat) (hi : i = P.length) (hj : j = P.length + 1 + Q.length) : swp (P ++ x :: (Q ++ y :: S)).toArray i j = (P ++ y :: (Q ++ x :: S)).toArray := by
  rw [swp_list]
  have e1 : (P ++ x :: (Q ++ y :: S)).toArray[i]! = x := get_at _ _ _ _ hi
  have e2 : (P ++ x :: (Q ++ y :: S)).toArray[j]! = y := by
    have := get_at (P ++ x :: Q) S y j (by simp; omega)
    rw [List.append_assoc, List.cons_append] at this
    exact this
  rw [e1, e2]
  subst hi; subst hj
  congr 1
  rw [List.set_append_right _ _ (Nat.le_refl _), Nat.sub_self, List.set_cons_zero, List.set_append_right _ _ (by omega), show P.length + 1 + Q.length - P.length = Q.length + 1 by omega, List.set_cons_succ, List.set_append_right _ _ (Nat.le_refl _), Nat.sub_self, List.set_cons_zero]
theorem swp_mid' (P Q S : List α) (x y : α) (i j : Nat) (hi : i = P.length) (hj : j = P.length + 1 + Q.length) : swp (P ++ x :: (Q ++ y :: S)).toArray j i = (P ++ y :: (Q ++ x :: S)).toArray := by
  rw [swp_list]
  have e1 : (P ++ x :: (Q ++ y :: S)).toArray[i]! = x := get_at _ _ _ _ hi
  have e2 : (P ++ x :: (Q ++ y :: S)).toArray[j]! = y := by
    have := get_at (P ++ x :: Q) S y j (by simp; omega)
    rw [List.append_assoc, List.cons_append] at this
    exact this
  rw [e1, e2]
  subst hi; subst hj
  congr 1
  rw [List.set_append_right _ _ (by omega), show P.length + 1 + Q.length - P.length = Q.length + 1 by omega, List.set_cons_succ, List.set_append_right _ _ (Nat.le_refl _), Nat.sub_self, List.set_cons_zero, List.set_append_right _ _ (Nat.le_refl _), Nat.sub_self, List.set_cons_zero]
theorem rng_step (P X Q Y S : List α) (n k i j : Nat) (hx : X.length = n) (hy : Y.length = n) (hk : k < n) (hi : i = P.length + k) (hj : j = P.length + n + Q.length + k) :
    swp (rng P X Q Y S k).toArray i j = (rng P X Q Y S (k + 1)).toArray := by
  have dx : X.drop k = X[k] :: X.drop (k + 1) := List.drop_eq_getElem_cons (by omega)
  have dy : Y.drop k = Y[k] :: Y.drop (k + 1) := List.drop_eq_getElem_cons (by omega)
  have tx : X.take (k + 1) = X.take k ++ [X[k]] := List.take_succ_eq_append_getElem (by omega)
  have ty : Y.take (k + 1) = Y.take k ++ [Y[k]] := List.take_succ_eq_append_getElem (by omega)
  have e : rng P X Q Y S k = (P ++ Y.take k) ++ X[k] :: ((X.drop (k + 1) ++ (Q ++ X.take k)) ++ Y[k] :: (Y.drop (k + 1) ++ S)) := by
    unfold rng; rw [dx, dy]; simp only [List.append_assoc, List.cons_append]
  rw [e, swp_mid (P ++ Y.take k) (X.drop (k + 1) ++ (Q ++ X.take k)) (Y.drop (k + 1) ++ S) _ _ i j (by simp; omega) (by simp; omega)]
  unfold rng; rw [tx, ty]; simp only [List.append_assoc, List.cons_append, List.nil_append]
end Go.Proofs.YthnnpnlapjlnoaaGreatDoor.Ca

/-
  WHAT THE SORT's BINARY SEARCHES SETTLE (plain): where a row is cut ('sym_cut'), where one element goes ('ins_left', 'ins_right'); what is left of the rows behind a guard that doesn't hold.
-/
set_option linter.unusedVariables false
namespace Go.Proofs.YthnnpnlapjlnoaaGreatDoor.Ca
section
variable {α : Type} (key : α → RowB)
theorem ins_left (x : α) (Y : List α) (i : Nat) (hY : Sorted key Y) (hi : i ≤ Y.length) (h1 : ∀ h : 0 < i, lt (key (Y[i - 1]'(by omega))) (key x) = true) (h2 : ∀ h : i < Y.length, lt (key Y[i]) (key x) = false) :
    mrg key [x] Y = Y.take i ++ x :: Y.drop i := by
  conv => lhs; rw [← List.take_append_drop i Y]
  refine mrg_one_left key (fun y hy => ?_) (fun y hy => ?_)
  · have h0 : 0 < i := by rcases Nat.eq_zero_or_pos i with rfl | h; simp at hy; exact h
    exact lt_of_not _ _ _ (mem_take_le key hY h0 hi hy) (h1 h0)
  · have h0 : i < Y.length := by
      rcases Nat.lt_or_ge i Y.length with h | h
      · exact h
      · rw [List.drop_eq_nil_of_le h] at hy; cases hy
    cases hc : lt (key y) (key x) with
    | false => rfl
    | true => have := lt_of_not _ _ _ (mem_drop_ge key hY h0 hy) hc; rw [h2 h0] at this; cases this
theorem ins_right (y : α) (X : List α) (i : Nat) (hX : Sorted key X) (hi : i ≤ X.length) (h1 : ∀ h : 0 < i, lt (key y) (key (X[i - 1]'(by omega))) = false) (h2 : ∀ h : i < X.length, lt (key y) (key X[i]) = true) :
    mrg key X [y] = X.take i ++ y :: X.drop i := by
  conv => lhs; rw [← List.take_append_drop i X]
  refine mrg_one_right key (fun x hx => ?_) (fun x hx => ?_)
  · have h0 : 0 < i := by rcases Nat.eq_zero_or_pos i with rfl | h; simp at hx; exact h
    cases hc : lt (key y) (key x) with
    | false => rfl
    | true => have := lt_lt_le hc (mem_take_le key hX h0 hi hx); rw [h1 h0] at this; cases this
  · have h0 : i < X.length := by
      rcases Nat.lt_or_ge i X.length with h | h
      · exact h
      · rw [List.drop_eq_nil_of_le h] at hx; cases hx
    exact lt_lt_le (h2 h0) (mem_drop_ge key hX h0 hx)
end
variable {α : Type} [Inhabited α] (key : α → RowB)

theorem getX (P X Y S : List α) (i : Nat) (h : i < X.length) : (P ++ (X ++ (Y ++ S))).toArray[P.length + i]! = X[i] := by
  rw [get_of (by simp; omega), List.getElem_append_right (by omega), List.getElem_append_left (by omega)]
  congr 1; omega
theorem getY (P X Y S : List α) (j : Nat) (h : j < Y.length) : (P ++ (X ++ (Y ++ S))).toArray[P.length + X.length + j]! = Y[j] := by
  rw [get_of (by simp; omega), List.getElem_append_right (by omega), List.getElem_append_right (by omega), List.getElem_append_left (by omega)]
  congr 1; omega
theorem getXn (P X Y S : List α) (n : Nat) (h0 : P.length ≤ n) (h : n - P.length < X.length) : (P ++ (X ++ (Y ++ S))).toArray[n]! = X[n - P.length] := by
  have := getX P X Y S (n - P.length) h
  rwa [show P.length + (n - P.length) = n by omega] at this
theorem getYn (P X Y S : List α) (n : Nat) (h0 : P.length + X.length ≤ n) (h : n - (P.length + X.length) < Y.length) : (P ++ (X ++ (Y ++ S))).toArray[n]! = Y[n - (P.length + X.length)] := by
  have := getY P X Y S (n - (P.length + X.length)) h
  rwa [show P.length + X.length + (n - (P.length + X.length)) = n by omega] at this
theorem sym_cut (P X Y S : List α) (a m b mid n s s0 r0 : Nat) (ha : a = P.length) (hm : m = a + X.length) (hb : b = m + Y.length) (hmid : mid = (a + b) / 2) (hn : n = mid + m)
    (hc : (mid < m ∧ s0 = n - b ∧ r0 = mid) ∨ (m ≤ mid ∧ s0 = a ∧ r0 = m)) (h0 : s0 ≤ s) (h1 : s ≤ r0)
    (g1 : s0 < s → lt (key (P ++ (X ++ (Y ++ S))).toArray[n - s]!) (key (P ++ (X ++ (Y ++ S))).toArray[s - 1]!) = false)
    (g2 : s < r0 → lt (key (P ++ (X ++ (Y ++ S))).toArray[n - 1 - s]!) (key (P ++ (X ++ (Y ++ S))).toArray[s]!) = true) (hX : Sorted key X) (hY : Sorted key Y) :
    mrg key X Y = mrg key (X.take (s - a)) (Y.take (n - s - m)) ++ mrg key (X.drop (s - a)) (Y.drop (n - s - m)) := by
  have b1 : s - a ≤ X.length := by omega
  have b2 : n - s - m ≤ Y.length := by omega
  refine mrg_cut key hX hY _ _ b1 b2 (fun p q => ?_) (fun p q => ?_)
  · have hs : s < r0 := by omega
    have := g2 hs
    rw [getYn P X Y S (n - 1 - s) (by omega) (by omega), getXn P X Y S s (by omega) (by omega)] at this
    simp only [← ha, show n - 1 - s - (a + X.length) = n - s - m - 1 by omega] at this
    exact this
  · have hs : s0 < s := by omega
    have := g1 hs
    rw [getYn P X Y S (n - s) (by omega) (by omega), getXn P X Y S (s - 1) (by omega) (by omega)] at this
    simp only [show n - s - (P.length + X.length) = n - s - m by omega, show s - 1 - P.length = s - a - 1 by omega] at this
    exact this
theorem swp_up (P Y S : List α) (x : α) (t i j : Nat) (ht : t < Y.length) (hi : i = P.length + t) (hj : j = P.length + t + 1) :
    Sort.swp (P ++ (Y.take t ++ x :: (Y.drop t ++ S))).toArray i j = (P ++ (Y.take (t + 1) ++ x :: (Y.drop (t + 1) ++ S))).toArray := by
  have dy : Y.drop t = Y[t] :: Y.drop (t + 1) := List.drop_eq_getElem_cons (by omega)
  have ty : Y.take (t + 1) = Y.take t ++ [Y[t]] := List.take_succ_eq_append_getElem (by omega)
  have e : P ++ (Y.take t ++ x :: (Y.drop t ++ S)) = (P ++ Y.take t) ++ x :: ([] ++ Y[t] :: (Y.drop (t + 1) ++ S)) := by
    rw [dy]; simp only [List.append_assoc, List.cons_append, List.nil_append]
  rw [e, swp_mid (P ++ Y.take t) [] (Y.drop (t + 1) ++ S) _ _ i j (by simp; omega) (by simp; omega), ty]
  simp only [List.append_assoc, List.cons_append, List.nil_append]
theorem swp_down (P X S : List α) (y : α) (t i j : Nat) (ht : t < X.length) (hi : i = P.length + t) (hj : j = P.length + t + 1) :
    Sort.swp (P ++ (X.take (t + 1) ++ y :: (X.drop (t + 1) ++ S))).toArray j i = (P ++ (X.take t ++ y :: (X.drop t ++ S))).toArray := by
  have dy : X.drop t = X[t] :: X.drop (t + 1) := List.drop_eq_getElem_cons (by omega)
  have ty : X.take (t + 1) = X.take t ++ [X[t]] := List.take_succ_eq_append_getElem (by omega)
  have e : P ++ (X.take (t + 1) ++ y :: (X.drop (t + 1) ++ S)) = (P ++ X.take t) ++ X[t] :: ([] ++ y :: (X.drop (t + 1) ++ S)) := by
    rw [ty]; simp only [List.append_assoc, List.cons_append, List.nil_append]
  rw [e, swp_mid' (P ++ X.take t) [] (X.drop (t + 1) ++ S) _ _ i j (by simp; omega) (by simp; omega), dy]
  simp only [List.append_assoc, List.cons_append, List.nil_append]
end Go.Proofs.YthnnpnlapjlnoaaGreatDoor.Ca

/-
  WHAT THE WALKS OF slices.SortStableFunc's FAMILY ASK OF THE PROGRAM, for rows of elements of k cells ('SrtP'): a program with these bodies and types; the program of this dump is one (k = 4).
-/
set_option linter.unusedVariables false
namespace Go.Proofs.YthnnpnlapjlnoaaGreatDoor.Ca
open Go.Shelf Go.RowKit Go.Lib Go.Sort

structure SrtP (P : Program) (k : Nat) : Prop where
  mixed : P.follows .mixedOrders = true
  fSort : P.funcs[87]? = some Tryz.f87
  fStable : P.funcs[114]? = some Tryz.f114
  fIns : P.funcs[132]? = some Tryz.f132
  fSym : P.funcs[133]? = some Tryz.f133
  fRot : P.funcs[144]? = some Tryz.f144
  fSwap : P.funcs[153]? = some Tryz.f153
  t0 : P.underlying 0 = some (TypeDesc.tuple #[])
  a0 : ∀ w, (isAgg 0).run P w = .ok false w
  z0 : ∀ w, (Go.sizeOf 0).run P w = .ok 1 w
  v0 : ∀ w, (zeroValue 0).run P w = .ok (Value.tuple #[]) w
  t3 : P.underlying 3 = some (TypeDesc.int IntKind.i64)
  a3 : ∀ w, (isAgg 3).run P w = .ok false w
  z3 : ∀ w, (Go.sizeOf 3).run P w = .ok 1 w
  v3 : ∀ w, (zeroValue 3).run P w = .ok (Value.int IntKind.i64 0) w
  tU : P.underlying 51 = some (TypeDesc.int IntKind.u64)
  aU : ∀ w, (isAgg 51).run P w = .ok false w
  zU : ∀ w, (Go.sizeOf 51).run P w = .ok 1 w
  t4 : P.underlying 4 = some (TypeDesc.bool)
  a4 : ∀ w, (isAgg 4).run P w = .ok false w
  z4 : ∀ w, (Go.sizeOf 4).run P w = .ok 1 w
  v4 : ∀ w, (zeroValue 4).run P w = .ok (Value.bool false) w
  tS : P.underlying 23 = some (TypeDesc.slice 41)
  aS : ∀ w, (isAgg 23).run P w = .ok false w
  zS : ∀ w, (Go.sizeOf 23).run P w = .ok 1 w
  vS : ∀ w, (zeroValue 23).run P w = .ok (Value.slice none 0 0) w
  tC : P.underlying 127 = some (TypeDesc.func #[41, 41] #[3] false)
  aC : ∀ w, (isAgg 127).run P w = .ok false w
  zC : ∀ w, (Go.sizeOf 127).run P w = .ok 1 w
  aE : ∀ w, (isAgg 41).run P w = .ok true w
  zE : ∀ w, (Go.sizeOf 41).run P w = .ok k w

theorem srtP : SrtP Tryz.prog 4 where
  mixed := by kernel_rfl
  fSort := Tryz.func87
  fStable := Tryz.func114
  fIns := Tryz.func132
  fSym := Tryz.func133
  fRot := Tryz.func144
  fSwap := Tryz.func153
  t0 := Tryz.underlying0
  a0 := fun w => by kernel_rfl
  z0 := fun w => by kernel_rfl
  v0 := fun w => by kernel_rfl
  t3 := Tryz.underlying3
  a3 := fun w => by kernel_rfl
  z3 := fun w => by kernel_rfl
  v3 := fun w => by kernel_rfl
  tU := Tryz.underlying51
  aU := fun w => by kernel_rfl
  zU := fun w => by kernel_rfl
  t4 := Tryz.underlying4
  a4 := fun w => by kernel_rfl
  z4 := fun w => by kernel_rfl
  v4 := fun w => by kernel_rfl
  tS := Tryz.underlying23
  aS := fun w => by kernel_rfl
  zS := fun w => by kernel_rfl
  vS := fun w => by kernel_rfl
  tC := Tryz.underlying127
  aC := fun w => by kernel_rfl
  zC := fun w => by kernel_rfl
  aE := fun w => by kernel_rfl
  zE := fun w => by kernel_rfl
end Go.Proofs.YthnnpnlapjlnoaaGreatDoor.Ca

/-
  THE WALKS OF slices.swapRangeCmpFunc AND slices.rotateCmpFunc at rows of elements of k cells: n places exchanged with n others; two neighbours exchanged.
-/
set_option linter.unusedVariables false
namespace Go.Proofs.YthnnpnlapjlnoaaGreatDoor.Ca
open Go.Shelf Go.RowKit Go.Lib Go.Sort
variable {P : Program} {α : Type} [Inhabited α] {k : Nat}

set_option maxHeartbeats 4000000 in
set_option maxRecDepth 1000000 in
theorem swapRange_srt (L : SrtP P k) (enc : α → List Value) (g : Nat) (cb : Array Value) (blk off cap len a b n : Nat) (d0 : Array α) (w0 w : World) (R : RowK enc k w0 blk off d0) (hs : d0.size = len) (PX X Q Y S : List α)
    (hx : X.length = n) (hy : Y.length = n) (ha : a = PX.length) (hb : b = PX.length + n + Q.length) (hl : PX.length + n + Q.length + n + S.length = len) (S0 : SWK enc k w0 blk off (PX ++ (X ++ (Q ++ (Y ++ S)))).toArray w) (hsz : len < 4611686018427387904) :
    Calls P 153 #[.slice (some ⟨blk, off, none⟩) len cap, .int .i64 a, .int .i64 b, .int .i64 n, .func (.func g) #[] cb] w fun e w' => e = .returned (.tuple #[]) ∧ SWK enc k w0 blk off (PX ++ (Y ++ (Q ++ (X ++ S)))).toArray w' := by
  have mixed := L.mixed; have t0 := L.t0; have a0 := L.a0; have z0 := L.z0; have v0 := L.v0; have t3 := L.t3; have a3 := L.a3; have z3 := L.z3; have v3 := L.v3; have t4 := L.t4; have a4 := L.a4; have z4 := L.z4; have v4 := L.v4; have tS := L.tS; have aS := L.aS; have zS := L.zS; have vS := L.vS; have tC := L.tC; have aC := L.aC; have zC := L.zC; have aE := L.aE; have zE := L.zE
  have FG := L.fSwap
  have hlk : ∀ i, i ≤ n → (rng PX X Q Y S i).toArray.size = len := fun i hi => by
    rw [List.size_toArray, rng_len PX X Q Y S n i hx hy hi]; exact hl
  have HLK : Aside (∀ i, i ≤ n → (rng PX X Q Y S i).toArray.size = len) := hlk
  have ST : Aside (∀ i j t : Nat, t < n → i = PX.length + t → j = PX.length + n + Q.length + t → swp (rng PX X Q Y S t).toArray i j = (rng PX X Q Y S (t + 1)).toArray) := fun i j t ht hi hj => rng_step PX X Q Y S n t i j hx hy ht hi hj
  have E0 : Aside (SWK enc k w0 blk off (rng PX X Q Y S 0).toArray w) := by show SWK _ _ _ _ _ _ _; rw [rng_zero]; exact S0
  have E1 : Aside ((rng PX X Q Y S n).toArray = (PX ++ (Y ++ (Q ++ (X ++ S)))).toArray) := by show _ = _; rw [rng_all PX X Q Y S n hx hy]
  have ha1 : a ≤ PX.length := by omega
  have ha2 : PX.length ≤ a := by omega
  have hb1 : b ≤ PX.length + n + Q.length := by omega
  have hb2 : PX.length + n + Q.length ≤ b := by omega
  have hl1 : PX.length + n + Q.length + n + S.length ≤ len := by omega
  clear S0 hlk L ha hb hl hx hy
  go_enter FG, Tryz.ntmps153
  go_wp2
  go_loopg [10] n (fun kx s10 wr => ∃ (i : Nat), s10 = .int .i64 i ∧ i ≤ n ∧ n - i ≤ kx ∧ Aside (SWK enc k w0 blk off (rng PX X Q Y S i).toArray wr))
  case atStart => exact ⟨0, by first | rfl | go_num, Nat.zero_le _, by omega, E0⟩
  case round =>
    clear E0
    obtain ⟨i, rfl, hin, hkx, S1⟩ := hrel
    by_cases hlt : i < n
    · have hltz : (i : Int) < (n : Int) := by omega
      have hsi := HLK.out i hin
      have hst := ST.out (a + i) (b + i) i hlt (by omega) (by omega)
      obtain ⟨dk, hdk⟩ : ∃ dk, (rng PX X Q Y S i).toArray = dk := ⟨_, rfl⟩
      rw [hdk] at hsi hst S1
      have ea : ((a : Int) + (i : Int)).toNat = a + i := by omega
      have pa : (0 : Int) ≤ (a : Int) + (i : Int) := by omega
      have ba : (a : Int) + (i : Int) < (len : Int) := by omega
      have ra : IntKind.i64.wrap ((a : Int) + (i : Int)) = (a : Int) + (i : Int) := by rw [IntKind.wrap_i64]; omega
      have eb : ((b : Int) + (i : Int)).toNat = b + i := by omega
      have pb : (0 : Int) ≤ (b : Int) + (i : Int) := by omega
      have bb : (b : Int) + (i : Int) < (len : Int) := by omega
      have rb : IntKind.i64.wrap ((b : Int) + (i : Int)) = (b : Int) + (i : Int) := by rw [IntKind.wrap_i64]; omega
      have S2 : Aside (SWK enc k w0 blk off (swp dk (a + i) (b + i)) ((wr.drew.setCells blk (off + (a + i) * k) (enc dk[b + i]!)).setCells blk (off + (b + i) * k) (enc dk[a + i]!))) := S1.out.swapped R (a + i) (b + i) (by omega) (by omega)
      have l1 := S1.out.ld1 R (by omega) P (a + i) (by omega)
      have l2 := S1.out.ld1 R (by omega) P (b + i) (by omega)
      have s1 := S1.out.st1 R (by omega) P (a + i) (by omega) dk[b + i]!
      have s2 := S1.out.st2 R (by omega) P (a + i) (b + i) (by omega) (by omega) dk[b + i]! dk[a + i]!
      have n1 : (enc dk[a + i]!).length = k := R.hk _
      have n2 : (enc dk[b + i]!).length = k := R.hk _
      generalize enc dk[a + i]! = cI at S2 l1 s2 n1
      generalize enc dk[b + i]! = cJ at S2 l2 s1 s2 n2
      rw [hst] at S2
      clear S1 hst hdk
      go_wp2_with fail
      go_big_region_o
      clear l1 l2 s1 s2
      generalize (wr.drew.setCells blk (off + (a + i) * k) cJ).setCells blk (off + (b + i) * k) cI = w2 at S2 ⊢
      go_wp2
      go_roundg (n - (i + 1))
      case measure => omega
      case rel => exact ⟨i + 1, by go_num, by omega, Nat.le_refl _, S2⟩
    · have hltz : ¬ (i : Int) < (n : Int) := by omega
      obtain rfl : i = n := by omega
      go_wp2
      go_end0
      exact ⟨rfl, E1.out ▸ S1.out⟩

/-- how far a rotation has come -/
structure RotAt (enc : α → List Value) (k : Nat) (w0 : World) (blk off len m i j : Nat) (T : List α) (wr : World) (Pk Xk Yk Sk : List α) : Prop where
  x : Xk.length = i
  y : Yk.length = j
  p : Pk.length + i = m
  l : Pk.length + i + j + Sk.length = len
  s : SWK enc k w0 blk off (Pk ++ (Xk ++ (Yk ++ Sk))).toArray wr
  t : Pk ++ (Yk ++ (Xk ++ Sk)) = T
set_option maxHeartbeats 4000000 in
set_option maxRecDepth 1000000 in
theorem rotate_srt (L : SrtP P k) (enc : α → List Value) (g : Nat) (cb : Array Value) (blk off cap len a m b : Nat) (d0 : Array α) (w0 w : World) (R : RowK enc k w0 blk off d0) (hs : d0.size = len) (PX X Y S : List α)
    (ha : a = PX.length) (hm : m = a + X.length) (hb : b = m + Y.length) (hx : 0 < X.length) (hy : 0 < Y.length) (hl : PX.length + X.length + Y.length + S.length = len) (S0 : SWK enc k w0 blk off (PX ++ (X ++ (Y ++ S))).toArray w) (hsz : len < 4611686018427387904) :
    Calls P 144 #[.slice (some ⟨blk, off, none⟩) len cap, .int .i64 a, .int .i64 m, .int .i64 b, .func (.func g) #[] cb] w fun e w' => e = .returned (.tuple #[]) ∧ SWK enc k w0 blk off (PX ++ (Y ++ (X ++ S))).toArray w' := by
  have mixed := L.mixed; have t0 := L.t0; have a0 := L.a0; have z0 := L.z0; have v0 := L.v0; have t3 := L.t3; have a3 := L.a3; have z3 := L.z3; have v3 := L.v3; have t4 := L.t4; have a4 := L.a4; have z4 := L.z4; have v4 := L.v4; have tS := L.tS; have aS := L.aS; have zS := L.zS; have vS := L.vS; have tC := L.tC; have aC := L.aC; have zC := L.zC; have aE := L.aE; have zE := L.zE
  have FG := L.fRot
  have eg : ∀ args w, (callFunc 153 args).run P w = .ok (.enter 153 args) w := enters_of L.fSwap (by kernel_rfl) rfl
  have CS : Aside (∀ (A B n : Nat) (W : World) (P1 X1 Q1 Y1 S1 : List α), X1.length = n → Y1.length = n → A = P1.length → B = P1.length + n + Q1.length → P1.length + n + Q1.length + n + S1.length = len → SWK enc k w0 blk off (P1 ++ (X1 ++ (Q1 ++ (Y1 ++ S1)))).toArray W →
      Calls P 153 #[.slice (some ⟨blk, off, none⟩) len cap, .int .i64 A, .int .i64 B, .int .i64 n, .func (.func g) #[] cb] W fun e w' => e = .returned (.tuple #[]) ∧ SWK enc k w0 blk off (P1 ++ (Y1 ++ (Q1 ++ (X1 ++ S1)))).toArray w') :=
    fun A B n W P1 X1 Q1 Y1 S1 h1 h2 h3 h4 h5 h6 => swapRange_srt L enc g cb blk off cap len A B n d0 w0 W R hs P1 X1 Q1 Y1 S1 h1 h2 h3 h4 h5 h6 hsz
  obtain ⟨T, hT⟩ : ∃ T, PX ++ (Y ++ (X ++ S)) = T := ⟨_, rfl⟩
  have R0 : RotAt enc k w0 blk off len m X.length Y.length T w PX X Y S := ⟨rfl, rfl, by omega, by omega, S0, hT⟩
  rw [hT]
  have i1 : (m : Int) - (a : Int) = (X.length : Int) := by omega
  have i2 : (b : Int) - (m : Int) = (Y.length : Int) := by omega
  have hbl : b ≤ len := by omega
  have hma : a ≤ m := by omega
  have hmb : m ≤ b := by omega
  clear S0 L hT ha hm hb hl
  go_enter FG, Tryz.ntmps144
  go_wp2
  go_loopg [10, 11] (X.length + Y.length) (fun kx s10 s11 wr => ∃ (i j : Nat) (Pk Xk Yk Sk : List α), s10 = .int .i64 i ∧ s11 = .int .i64 j ∧ 0 < i ∧ 0 < j ∧ i + j ≤ kx ∧ RotAt enc k w0 blk off len m i j T wr Pk Xk Yk Sk)
  case atStart => exact ⟨X.length, Y.length, PX, X, Y, S, by first | rfl | go_num, by first | rfl | go_num, hx, hy, Nat.le_refl _, R0⟩
  case round =>
    clear R0
    obtain ⟨i, j, Pk, Xk, Yk, Sk, rfl, rfl, hi0, hj0, hkx, RA⟩ := hrel
    have p1 : i ≤ m := by have := RA.p; omega
    have p2 : m + j ≤ len := by have := RA.p; have := RA.l; omega
    obtain ⟨A, hA⟩ : ∃ A : Nat, A = m - i := ⟨_, rfl⟩
    have eA : (m : Int) - (i : Int) = (A : Int) := by omega
    by_cases hij : i = j
    · subst hij
      have c := CS.out A m i wr Pk Xk [] Yk Sk RA.x RA.y (by have := RA.p; omega) (by have := RA.p; simp; omega) (by have := RA.l; simp; omega) (by simpa using RA.s)
      have hT := RA.t
      clear hA CS
      go_wp2_with fail
      go_at_call 153
      refine c.mono ?_
      rintro e w1 ⟨rfl, hS⟩
      go_wp2
      go_end0
      exact ⟨rfl, by rw [← hT]; simpa using hS⟩
    · have hne : ¬ (i : Int) = (j : Int) := by omega
      by_cases hgt : j < i
      · have hgtz : (j : Int) < (i : Int) := by omega
        have hlX : (Xk.take j).length = j := by have := RA.x; simp; omega
        have hlD : (Xk.drop j).length = i - j := by have := RA.x; simp; omega
        have c := CS.out A m j wr Pk (Xk.take j) (Xk.drop j) Yk Sk hlX RA.y (by have := RA.p; omega) (by have := RA.p; omega) (by have := RA.l; omega) (by rw [← List.append_assoc (Xk.take j), List.take_append_drop]; exact RA.s)
        have RN : ∀ W, SWK enc k w0 blk off (Pk ++ (Yk ++ (Xk.drop j ++ (Xk.take j ++ Sk)))).toArray W → RotAt enc k w0 blk off len m (i - j) j T W (Pk ++ Yk) (Xk.drop j) (Xk.take j) Sk := fun W h =>
          ⟨hlD, hlX, by have := RA.p; have := RA.y; simp; omega, by have := RA.l; have := RA.y; simp; omega, by rw [List.append_assoc]; exact h, by
            rw [← RA.t]; conv => rhs; rw [← List.take_append_drop j Xk]
            simp only [List.append_assoc]⟩
        have RN' := Lib.hid RN
        clear hA CS RN RA hlX hlD
        go_wp2_with fail
        go_at_call 153
        refine c.mono ?_
        rintro e w1 ⟨rfl, hS⟩
        have RM := RN'.out _ hS
        clear c hS RN'
        go_wp2
        go_roundg (i - j + j)
        case measure => omega
        case rel => exact ⟨i - j, j, _, _, _, _, by first | rfl | go_num | (congr 1; omega), rfl, by omega, hj0, Nat.le_refl _, RM⟩
      · have hgtz : ¬ (j : Int) < (i : Int) := by omega
        obtain ⟨B, hB⟩ : ∃ B : Nat, B = m + j - i := ⟨_, rfl⟩
        have eB : (m : Int) + (j : Int) - (i : Int) = (B : Int) := by omega
        have hlT : (Yk.take (j - i)).length = j - i := by have := RA.y; simp; omega
        have hlD : (Yk.drop (j - i)).length = i := by have := RA.y; simp; omega
        have c := CS.out A B i wr Pk Xk (Yk.take (j - i)) (Yk.drop (j - i)) Sk RA.x hlD (by have := RA.p; omega) (by have := RA.p; omega) (by have := RA.l; omega) (by rw [← List.append_assoc (Yk.take (j - i)), List.take_append_drop]; exact RA.s)
        have RN : ∀ W, SWK enc k w0 blk off (Pk ++ (Yk.drop (j - i) ++ (Yk.take (j - i) ++ (Xk ++ Sk)))).toArray W → RotAt enc k w0 blk off len m i (j - i) T W Pk (Yk.drop (j - i)) (Yk.take (j - i)) (Xk ++ Sk) := fun W h =>
          ⟨hlD, hlT, RA.p, by have := RA.l; have := RA.x; simp; omega, h, by
            rw [← RA.t]; conv => rhs; rw [← List.take_append_drop (j - i) Yk]
            simp only [List.append_assoc]⟩
        have RN' := Lib.hid RN
        clear hA hB CS RN RA hlT hlD
        go_wp2_with fail
        go_at_call 153
        refine c.mono ?_
        rintro e w1 ⟨rfl, hS⟩
        have RM := RN'.out _ hS
        clear c hS RN'
        go_wp2
        go_roundg (i + (j - i))
        case measure => omega
        case rel => exact ⟨i, j - i, _, _, _, _, rfl, by first | rfl | go_num | (congr 1; omega), hi0, by omega, Nat.le_refl _, RM⟩
end Go.Proofs.YthnnpnlapjlnoaaGreatDoor.Ca
